/- Texts joined in build order: ForestEnds ForestOrderMath AttrSet AttrRem AttrFind AttrClone AttrDelete AttrMath AttrSet2 AttrMath2 OwnRows CBox. -/
import Derived.Test.YtnjoimedilonnaaGreatC13
import Derived.Laws.OwnMore
import Derived.Test.YtnjoimedilonnaaGreatC09
import Derived.Test.YtnjoimedilonnaaGreatC11
import Derived.Lib.SliceRun
import Derived.Deep.RegionLaw
import Derived.Laws.IdiomCopy
import Derived.Deep.MidRow
import Derived.Deep.SlicePairs
namespace Go.Proofs.YtnjoimedilonnaaGreat
theorem nodup_lt : ∀ (n : Nat) (l : List Nat), l.Nodup → (∀ x ∈ l, x < n) → l.length ≤ n
  | 0, l, _, h => by
    cases l with
    | nil => exact Nat.le_refl _
    | cons a r => exact absurd (h a (by simp)) (by omega)
  | n + 1, l, hn, h => by
    have h1 := nodup_lt n (l.filter (fun x => decide (x ≠ n))) (hn.filter _) (fun x hx => by
      have := List.mem_filter.1 hx
      have h2 := h x this.1
      have h3 := of_decide_eq_true this.2
      omega)
    have h2 : l.countP (fun x => decide (x ≠ n)) + l.countP (fun x => ! decide (x ≠ n)) = l.length := by
      have := List.length_eq_countP_add_countP (fun x => decide (x ≠ n)) (l := l)
      rw [this]
      congr 1
      refine List.countP_congr fun x _ => ?_
      simp
    have h3 : l.countP (fun x => ! decide (x ≠ n)) ≤ 1 := by
      have h4 : l.countP (fun x => ! decide (x ≠ n)) = l.count n := by
        unfold List.count
        refine List.countP_congr fun x _ => ?_
        simp
      rw [h4]
      exact List.nodup_iff_count.1 hn n
    rw [← List.countP_eq_length_filter] at h1
    omega
section
variable {nxt : Int → Int}
def exZ (nxt : Int → Int) (r : Nat) (i : Int) : Prop := endsZ nxt r i = true ∧ ∀ s, s < r → endsZ nxt s i = false
theorem exZ_of : ∀ (m : Nat) (i : Int), endsZ nxt m i = true → ∃ r, r ≤ m ∧ exZ nxt r i
  | m, i, h => by
    by_cases hs : ∃ s, s < m ∧ endsZ nxt s i = true
    · obtain ⟨s, hs, he⟩ := hs
      obtain ⟨r, hr, hx⟩ := exZ_of s i he
      exact ⟨r, by omega, hx⟩
    · exact ⟨m, Nat.le_refl _, h, fun s hl => by
        cases hq : endsZ nxt s i with
        | false => rfl
        | true => exact absurd ⟨s, hl, hq⟩ hs⟩
termination_by m => m
theorem exZ_one {r s : Nat} {i : Int} (h1 : exZ nxt r i) (h2 : exZ nxt s i) : r = s := by
  rcases Nat.lt_trichotomy r s with h | h | h
  · have := h2.2 r h
    rw [h1.1] at this
    cases this
  · exact h
  · have := h1.2 s h
    rw [h2.1] at this
    cases this
def chainZ (nxt : Int → Int) : Nat → Int → List Int
  | 0, _ => []
  | s + 1, i => i :: chainZ nxt s (nxt i)
theorem exZ_next {r : Nat} {i : Int} (h : exZ nxt (r + 1) i) : i ≠ -1 ∧ exZ nxt r (nxt i) := by
  have h0 := h.2 0 (by omega)
  have hi : i ≠ -1 := fun e => by
    rw [e] at h0
    cases h0
  refine ⟨hi, by rw [← endsZ_step hi]; exact h.1, fun s hs => ?_⟩
  rw [← endsZ_step hi]
  exact h.2 (s + 1) (by omega)
theorem chain_facts {n : Nat} (hr : ∀ i : Int, 0 ≤ i → i < n → nxt i = -1 ∨ (0 ≤ nxt i ∧ nxt i < n)) :
    ∀ (r : Nat) (i : Int), exZ nxt r i → (i = -1 ∨ (0 ≤ i ∧ i < (n : Int))) → (chainZ nxt r i).length = r ∧ (chainZ nxt r i).Nodup ∧ ∀ y ∈ chainZ nxt r i, (0 ≤ y ∧ y < (n : Int)) ∧ ∃ s, 0 < s ∧ s ≤ r ∧ exZ nxt s y
  | 0, i, _, _ => ⟨rfl, List.nodup_nil, fun y hy => by cases hy⟩
  | r + 1, i, h, hi => by
    obtain ⟨hne, hx⟩ := exZ_next h
    have hi2 : 0 ≤ i ∧ i < (n : Int) := by
      rcases hi with h | h
      · exact absurd h hne
      · exact h
    obtain ⟨h1, h2, h3⟩ := chain_facts hr r (nxt i) hx (hr i hi2.1 hi2.2)
    refine ⟨by unfold chainZ; rw [List.length_cons, h1], ?_, fun y hy => ?_⟩
    · unfold chainZ
      rw [List.nodup_cons]
      refine ⟨fun hm => ?_, h2⟩
      obtain ⟨_, s, _, hs2, hs3⟩ := h3 i hm
      have := exZ_one h hs3
      omega
    · unfold chainZ at hy
      rcases List.mem_cons.1 hy with rfl | hy
      · exact ⟨hi2, r + 1, by omega, Nat.le_refl _, h⟩
      · obtain ⟨h4, s, h5, h6, h7⟩ := h3 y hy
        exact ⟨h4, s, h5, by omega, h7⟩
theorem endsZ_le {r n : Nat} (h : r ≤ n) {i : Int} (he : endsZ nxt r i = true) : endsZ nxt n i = true := by
  obtain ⟨d, rfl⟩ : ∃ d, n = r + d := ⟨n - r, by omega⟩
  clear h
  induction d with
  | zero => exact he
  | succ d ih => exact endsZ_more _ _ ih
theorem ends_small {n : Nat} (hr : ∀ i : Int, 0 ≤ i → i < n → nxt i = -1 ∨ (0 ≤ nxt i ∧ nxt i < n)) {m : Nat} {i : Int} (hi : i = -1 ∨ (0 ≤ i ∧ i < (n : Int))) (h : endsZ nxt m i = true) : endsZ nxt n i = true := by
  obtain ⟨r, _, hx⟩ := exZ_of m i h
  obtain ⟨h1, h2, h3⟩ := chain_facts hr r i hx hi
  have h4 : ((chainZ nxt r i).map Int.toNat).Nodup := by
    have key : ∀ l : List Int, l.Nodup → (∀ z ∈ l, 0 ≤ z) → (l.map Int.toNat).Nodup := by
      intro l
      induction l with
      | nil => intro _ _; simp
      | cons a r ih =>
        intro hl hp
        rw [List.nodup_cons] at hl
        rw [List.map_cons, List.nodup_cons]
        refine ⟨fun hm => ?_, ih hl.2 (fun z hz => hp z (by simp [hz]))⟩
        obtain ⟨z, hz, e⟩ := List.mem_map.1 hm
        have h1 := hp a (by simp)
        have h2 := hp z (by simp [hz])
        have : z = a := by omega
        exact hl.1 (this ▸ hz)
    exact key _ h2 (fun z hz => (h3 z hz).1.1)
  have h5 := nodup_lt n _ h4 (fun y hy => by
    obtain ⟨z, hz, rfl⟩ := List.mem_map.1 hy
    have := (h3 z hz).1
    omega)
  rw [List.length_map, h1] at h5
  exact endsZ_le h5 hx.1
end
end Go.Proofs.YtnjoimedilonnaaGreat
namespace Go.Proofs.YtnjoimedilonnaaGreat
open Go.RowKit
theorem hasZ_nodup : ∀ {L : List Int} {n : Int}, L.Nodup → hasZ L n = if n ∈ L then 1 else 0
  | [], n, _ => rfl
  | z :: l, n, h => by
    have h2 := List.nodup_cons.1 h
    have ih := hasZ_nodup (n := n) h2.2
    unfold hasZ at ih ⊢
    rw [List.countP_cons, ih]
    by_cases e : z = n
    · subst e
      rw [if_neg h2.1, if_pos (by simp), if_pos (List.mem_cons_self ..)]
    · rw [if_neg (show ¬ ((z == n) = true) from fun g => e (beq_iff_eq.1 g))]
      by_cases hm : n ∈ l
      · rw [if_pos hm, if_pos (List.mem_cons_of_mem _ hm)]
      · rw [if_neg hm, if_neg (fun g => by rcases List.mem_cons.1 g with g | g; exact e g.symm; exact hm g)]
theorem nodup_sub : ∀ (n : Nat) (l : List Nat), l.Nodup → (∀ x ∈ l, x < n) → l.length ≤ n
  | 0, l, _, hs => by
    cases l with
    | nil => exact Nat.le_refl _
    | cons a r => exact absurd (hs a (List.mem_cons_self ..)) (by omega)
  | n + 1, l, h, hs => by
    have ih := nodup_sub n (l.erase n) (h.erase n) (fun x hx => by
      have := (List.Nodup.mem_erase_iff h).1 hx
      have := hs x this.2
      omega)
    by_cases hm : n ∈ l
    · rw [List.length_erase_of_mem hm] at ih
      omega
    · rw [List.erase_of_not_mem hm] at ih
      omega
end Go.Proofs.YtnjoimedilonnaaGreat
namespace Go.Proofs.YtnjoimedilonnaaGreat
open Go.RowKit
def SetPost (w : World) (M : AL) (z : Int) (e : Ending) (w' : World) : Prop := ∃ a len cap, e = .returned (.tuple #[.slice a len cap, .int .i64 z]) ∧ AttrRow w' a len cap M ∧ Below w.heap.size w w'
theorem SetPost.mk {w w' : World} {M : AL} {z : Int} {e : Ending} {a : Option Addr} {len cap : Nat} (he : e = .returned (.tuple #[.slice a len cap, .int .i64 z])) (h : AttrRow w' a len cap M) (hb : Below w.heap.size w w') : SetPost w M z e w' := ⟨a, len, cap, he, h, hb⟩
theorem attr_info : (Tryz.prog.info? 67).map (fun i => (i.zero, i.size, i.bytes)) = some (some (.agg #[.string ⟨#[]⟩, .string ⟨#[]⟩]), 2, 32) := by kernel_rfl
theorem AttrRow.of_own {w : World} {base : Nat} {v : Value} {n : Nat} {M : AL} (hl : M.length = n) (h : w.ownsRow base 67 2 v n (M.flatMap encA)) (hs : ∀ x ∈ M, x.1.size ≤ maxLen ∧ x.2.size ≤ maxLen) :
    ∃ a cap, v = .slice a n cap ∧ AttrRow w a n cap M := by
  rcases h.2 with ⟨rfl, h0⟩ | ⟨g, cap, cur, rfl, _⟩
  · subst h0
    have hL : M = [] := List.eq_nil_of_length_eq_zero hl
    subst hL
    exact ⟨none, 0, rfl, SRow.nil, hs, fun _ => rfl⟩
  · obtain ⟨a, cap', he, hr, _⟩ := SRow.of_own (fun x _ => encA_len x) hl h
    injection he with h1 h2 h3
    subst h1; subst h3
    exact ⟨_, _, rfl, hr, hs, fun h => by cases h⟩
end Go.Proofs.YtnjoimedilonnaaGreat
namespace Go.Proofs.YtnjoimedilonnaaGreat
open Go.RowKit
def RemPost (w : World) (M : AL) (z : Bool) (e : Ending) (w' : World) : Prop := ∃ a len cap, e = .returned (.tuple #[.slice a len cap, .bool z]) ∧ AttrRow w' a len cap M ∧ Below w.heap.size w w'
theorem RemPost.mk {w w' : World} {M : AL} {z : Bool} {e : Ending} {a : Option Addr} {len cap : Nat} (he : e = .returned (.tuple #[.slice a len cap, .bool z])) (h : AttrRow w' a len cap M) (hb : Below w.heap.size w w') : RemPost w M z e w' := ⟨a, len, cap, he, h, hb⟩
def TogPost (w : World) (M : AL) (t : Bool) (z : Int) (e : Ending) (w' : World) : Prop := ∃ a len cap, e = .returned (.tuple #[.slice a len cap, .bool t, .int .i64 z]) ∧ AttrRow w' a len cap M ∧ Below w.heap.size w w'
theorem TogPost.mk {w w' : World} {M : AL} {t : Bool} {z : Int} {e : Ending} {a : Option Addr} {len cap : Nat} (he : e = .returned (.tuple #[.slice a len cap, .bool t, .int .i64 z])) (h : AttrRow w' a len cap M) (hb : Below w.heap.size w w') : TogPost w M t z e w' := ⟨a, len, cap, he, h, hb⟩
end Go.Proofs.YtnjoimedilonnaaGreat
namespace Go.Proofs.YtnjoimedilonnaaGreat
open Go.RowKit Go.Maps Go.WideMaps
def findI (L : AL) (n : List UInt8) : Int := if rightA L && rightL n then atL L (smallL n) else -1
def findS (L : AL) (n : List UInt8) : List UInt8 := if rightA L && rightL n then smallL n else []
def findE (L : AL) (n : List UInt8) : Int := if rightA L then (if rightL n then 0 else 4) else 1
set_option maxHeartbeats 4000000 in
set_option maxRecDepth 100000 in
theorem find_any (a : Option Addr) (len cap : Nat) (L : AL) (n : ByteArray) (w : World) (h : AttrRow w a len cap L) (hn : n.size ≤ maxLen) :
    Calls Tryz.prog 47 #[.slice a len cap, .string n] w fun e w' => e = .returned (.tuple #[.int .i64 (findI L n.toList), .string (ofL (findS L n.toList)), .int .i64 (findE L n.toList)]) ∧ Below w.heap.size w w' := by
  have HN := Lib.hid hn
  by_cases hr : rightA L = true
  rotate_left
  · have hr : rightA L = false := by simpa using hr
    have C1 := Lib.hid (placesWrong_any a len cap L w h hr)
    have E1 : findI L n.toList = -1 := by unfold findI; rw [hr]; rfl
    have E2 : findS L n.toList = [] := by unfold findS; rw [hr]; rfl
    have E3 : findE L n.toList = 1 := by unfold findE; rw [hr]; rfl
    rw [E1, E2, E3]
    clear h hr hn E1 E2 E3
    go_enter Tryz.func47, Tryz.ntmps47
    go_wp2_with (first
      | (go_at_call 60; refine C1.out.mono ?_; rintro e w' ⟨rfl, HB⟩))
    go_ret3
    exact ⟨rfl, HB⟩
  have C1 := Lib.hid (placesRight_any a len cap L w h hr)
  have HF := Lib.hid (right_first hr)
  by_cases hnr : rightL n.toList = true
  rotate_left
  · have hnr : rightL n.toList = false := by simpa using hnr
    have E1 : findI L n.toList = -1 := by unfold findI; rw [hr, hnr]; rfl
    have E2 : findS L n.toList = [] := by unfold findS; rw [hr, hnr]; rfl
    have E3 : findE L n.toList = 4 := by unfold findE; rw [hr, hnr]; rfl
    have e1 : fitE n.toList = 4 := by unfold fitE; rw [hnr]; rfl
    have C2 : Hid (∀ W, Calls Tryz.prog 61 #[.string n] W fun e w' => e = .returned (.tuple #[.string (ofL (fitL n.toList)), .int .i64 4]) ∧ Below W.heap.size W w') := Lib.hid (fun W => by
      have := fit_any n W HN.out
      rwa [e1] at this)
    rw [E1, E2, E3]
    clear h hr hn E1 E2 E3 e1 hnr HF
    go_enter Tryz.func47, Tryz.ntmps47
    go_wp2_with (first
      | (go_at_call 60; refine C1.out.mono ?_; rintro e w1 ⟨b, rfl, _, _, HB⟩)
      | (go_at_call 61; refine (C2.out _).mono ?_; rintro e w' ⟨rfl, hb⟩; have HB := HB.trans (hb.mono HB.size); clear hb))
    go_ret3
    exact ⟨rfl, HB⟩
  have E1 : findI L n.toList = atL L (smallL n.toList) := by unfold findI; rw [hr, hnr]; rfl
  have E2 : findS L n.toList = smallL n.toList := by unfold findS; rw [hr, hnr]; rfl
  have E3 : findE L n.toList = 0 := by unfold findE; rw [hr, hnr]; rfl
  have e1 : fitE n.toList = 0 := by unfold fitE; rw [hnr]; rfl
  have e2 : fitL n.toList = smallL n.toList := by unfold fitL; rw [hnr]; rfl
  have C2 : Hid (∀ W, Calls Tryz.prog 61 #[.string n] W fun e w' => e = .returned (.tuple #[.string (ofL (smallL n.toList)), .int .i64 0]) ∧ Below W.heap.size W w') := Lib.hid (fun W => by
    have := fit_any n W HN.out
    rwa [e1, e2] at this)
  have hkey : Hid (keyOf Tryz.prog 9 (.string (ofL (smallL n.toList))) = some (.string (smallL n.toList))) := Lib.hid (by
    have := keyS (s := ofL (smallL n.toList)) (by rw [size_ofL, smallL_length, tl_len]; exact hn)
    rwa [← tl, toList_ofL] at this)
  have HH := Lib.hid (plD_has (L := L) (smallL n.toList) L.length (Nat.le_refl _))
  rw [E1, E2, E3]
  by_cases hp : atN L (smallL n.toList) < L.length
  · have HH1 : Hid (Maps.has (plD L L.length) (.string (smallL n.toList)) = true) := Lib.hid (by rw [HH.out, decide_eq_true hp])
    have HA := Lib.hid (plD_at (L := L) (smallL n.toList) (.lit (.int .i64 0)) L.length (Nat.le_refl _) HF.out hp)
    have HE : atL L (smallL n.toList) = (atN L (smallL n.toList) : Int) := by unfold atL; rw [if_pos hp]
    rw [HE]
    clear h hr hn E1 E2 E3 e1 e2 hnr HF HE hp HH
    go_enter Tryz.func47, Tryz.ntmps47
    go_wp2_with (first
      | (go_at_call 60; refine C1.out.mono ?_; rintro e w1 ⟨b, rfl, _, hown, HB⟩; have HM := Lib.hid hown; clear hown)
      | (go_at_call 61; refine (C2.out _).mono ?_; rintro e w' ⟨rfl, hb⟩; have HM := Lib.hid (own_belowM HM.out hb); have HB := HB.trans (hb.mono HB.size); clear hb)
      | (at_lookup; refine wpList_lookup_own_ok_int _ rfl _ _ 83 rfl 9 3 .i64 lawS Tryz.underlying83 Tryz.underlying3 (zeroI _) b L.length (plD L L.length) rfl HM.out _ _ rfl hkey.out ?_; intro c hat hwc; simp only [HH1.out]; obtain rfl : (atN L (smallL n.toList) : Int) = c := (by rw [HA.out] at hat; injection hat with hat; injection hat); clear hat hwc))
    go_ret3
    exact ⟨rfl, HB⟩
  · have HH1 : Hid (Maps.has (plD L L.length) (.string (smallL n.toList)) = false) := Lib.hid (by rw [HH.out, decide_eq_false hp])
    have HE : atL L (smallL n.toList) = -1 := by unfold atL; rw [if_neg hp]
    rw [HE]
    clear h hr hn E1 E2 E3 e1 e2 hnr HF HE hp HH
    go_enter Tryz.func47, Tryz.ntmps47
    go_wp2_with (first
      | (go_at_call 60; refine C1.out.mono ?_; rintro e w1 ⟨b, rfl, _, hown, HB⟩; have HM := Lib.hid hown; clear hown)
      | (go_at_call 61; refine (C2.out _).mono ?_; rintro e w' ⟨rfl, hb⟩; have HM := Lib.hid (own_belowM HM.out hb); have HB := HB.trans (hb.mono HB.size); clear hb)
      | (at_lookup; refine wpList_lookup_own_ok_int _ rfl _ _ 83 rfl 9 3 .i64 lawS Tryz.underlying83 Tryz.underlying3 (zeroI _) b L.length (plD L L.length) rfl HM.out _ _ rfl hkey.out ?_; intro c hat hwc; simp only [HH1.out]; clear hat hwc))
    go_ret3
    exact ⟨rfl, HB⟩
end Go.Proofs.YtnjoimedilonnaaGreat
namespace Go.Proofs.YtnjoimedilonnaaGreat
open Go.RowKit
def OwnPost (w : World) (L : AL) (e : Ending) (w' : World) : Prop := ∃ v, e = .returned v ∧ w'.ownsRow w.heap.size 67 2 v L.length (L.flatMap encA) ∧ Below w.heap.size w w'
set_option maxHeartbeats 4000000 in
theorem clone_any (a : Option Addr) (len cap : Nat) (L : AL) (w : World) (h : AttrRow w a len cap L) (h40 : len ≤ 1000000) :
    Calls Tryz.prog 49 #[.slice a len cap] w (OwnPost w L) := by
  obtain ⟨i0, hi0, hz0, hz1, hz2⟩ := info_parts attr_info
  have HL := Lib.hid h.hlen
  have q22 : ∀ (w : World) (a : Option Addr) (n c n' c' : Nat), (binOp .eql 35 (.slice a n c) (.slice none n' c')).run Tryz.prog w = .ok (.bool a.isNone) w := fun w a n c n' c' => Lib.run_eql_slice_nil w _ _ a n c n' c' Tryz.underlying35
  rcases a with _ | ad
  · have hc : cap = 0 := h.hnil rfl
    have h0 : len = 0 := by have := h.row.hcap; omega
    have hLn : L = [] := List.eq_nil_of_length_eq_zero (by rw [h.hlen, h0])
    subst hc; subst h0; subst hLn
    clear h
    go_enter Tryz.func49, Tryz.ntmps49
    go_wp2
    go_ret
    exact ⟨_, rfl, World.ownsRow_nil _ _ _ _, Below.refl _ _⟩
  · have H := Lib.hid h
    have hE := own_empty (α := ByteArray × ByteArray) (enc := encA) (size := 2) w w.heap.size 67 (Nat.le_refl _)
    have HE := Lib.hid hE
    clear h hE
    go_enter Tryz.func49, Tryz.ntmps49
    go_wp2_with (first
      | (at_builtin
         refine wpList_append_rows rfl (.tmp 5) (.tmp 6) 35 rfl 67 i0 _ 2 32 Tryz.underlying35 hi0 hz0 hz1 hz2 rfl (by decide) w.heap.size _ 0 _ L rfl HE.out (some ad) len cap rfl (H.out.below ((Below.refl _ _).alloc (Nat.le_refl _) _)).row (fun x _ => encA_one x) (by unfold maxLen; omega) (by omega) (by simp) (fun h => by cases h) ?_
         intro v2 w2 hown2 hg2 hat2
         have HB2 := below_new (Below.refl _ _) hg2
         have HO2 := Lib.hid hown2
         clear hown2 hg2 hat2))
    go_ret
    refine ⟨_, rfl, ?_, HB2⟩
    have := HO2.out
    rw [HL.out]
    simpa using this
set_option maxHeartbeats 4000000 in
theorem attrget_any (a : Option Addr) (len cap : Nat) (L : AL) (n : ByteArray) (w : World) (h : AttrRow w a len cap L) (hn : n.size ≤ maxLen) :
    Calls Tryz.prog 29 #[.slice a len cap, .string n] w fun e w' => e = .returned (.tuple #[.string (valA L n.toList), .bool (hasA L n.toList)]) ∧ Below w.heap.size w w' := by
  have C1 := Lib.hid (find_any a len cap L n w h hn)
  have H := Lib.hid h
  by_cases hg : (rightA L && rightL n.toList) = true
  rotate_left
  · have hg : (rightA L && rightL n.toList) = false := by simpa using hg
    have HR : Hid (hasA L n.toList = false) := Lib.hid (by unfold hasA; rw [hg]; rfl)
    have HV : Hid (valA L n.toList = ofL []) := Lib.hid (by unfold valA; rw [HR.out]; rfl)
    have E1 : findI L n.toList = -1 := by unfold findI; rw [hg]; rfl
    have C2 := C1.out
    rw [E1] at C2
    have C3 := Lib.hid C2
    by_cases hz : findE L n.toList = 0
    · exfalso
      unfold findE at hz
      revert hg hz
      cases rightA L <;> cases rightL n.toList <;> simp
    · have z1 : (findE L n.toList == 0) = false := beq_eq_false_iff_ne.2 hz
      have z2 : (findE L n.toList != 0) = true := by unfold bne; rw [z1]; rfl
      clear h hn hg E1 C2 C1 hz
      go_enter Tryz.func29, Tryz.ntmps29
      go_wp2_with (first
        | (go_at_call 47; refine C3.out.mono ?_; rintro e w' ⟨rfl, HB⟩))
      go_ret2
      exact ⟨by rw [HR.out, HV.out]; rfl, HB⟩
  have E3 : findE L n.toList = 0 := by
    unfold findE
    revert hg
    cases rightA L <;> cases rightL n.toList <;> simp
  by_cases hp : placeA L n.toList < L.length
  · have E1 : findI L n.toList = (placeA L n.toList : Int) := by unfold findI; rw [hg, ← atL_place hp]; rfl
    have hp' : placeA L n.toList < len := by rw [← h.hlen]; exact hp
    obtain ⟨b, off, xn, xv, rfl, hblt, hx, hc1, hc2, _, _⟩ := H.out.get hp'
    have HR : Hid (hasA L n.toList = true) := Lib.hid (by unfold hasA; rw [hg, decide_eq_true hp]; rfl)
    have HV : Hid (valA L n.toList = xv) := Lib.hid (by unfold valA; rw [HR.out, hx]; rfl)
    have C2 := C1.out
    rw [E1, E3] at C2
    obtain ⟨p, hpp⟩ : ∃ p, placeA L n.toList = p := ⟨_, rfl⟩
    rw [hpp] at C2 hp' hc1 hc2
    have C3 := Lib.hid C2
    have hl := h.len64
    have z1 : ((p : Int) == -1) = false := beq_eq_false_iff_ne.2 (by omega)
    clear h hn hg E1 E3 C2 C1 hpp hx hp
    go_enter Tryz.func29, Tryz.ntmps29
    go_wp2_with (first
      | (go_at_call 47; refine C3.out.mono ?_; rintro e w' ⟨rfl, HB⟩; have hd := (HB.cell (p := ⟨b, off + p * 2 + 1, none⟩) hblt).trans hc2))
    go_ret2
    exact ⟨by rw [HR.out, HV.out]; rfl, HB⟩
  · have E1 : findI L n.toList = -1 := by unfold findI; rw [hg, ← atL_noplace hp]; rfl
    have HR : Hid (hasA L n.toList = false) := Lib.hid (by unfold hasA; rw [decide_eq_false hp]; simp)
    have HV : Hid (valA L n.toList = ofL []) := Lib.hid (by unfold valA; rw [HR.out]; rfl)
    have C2 := C1.out
    rw [E1, E3] at C2
    have C3 := Lib.hid C2
    clear h hn hg E1 E3 C2 C1 hp
    go_enter Tryz.func29, Tryz.ntmps29
    go_wp2_with (first
      | (go_at_call 47; refine C3.out.mono ?_; rintro e w' ⟨rfl, HB⟩))
    go_ret2
    exact ⟨by rw [HR.out, HV.out]; rfl, HB⟩
end Go.Proofs.YtnjoimedilonnaaGreat
namespace Go.Proofs.YtnjoimedilonnaaGreat
open Go.RowKit
theorem below_setCells {B g : Nat} {a : World} (hg : B ≤ g) : ∀ (vs : List Value) (o : Nat) (w : World), Below B a w → Below B a (w.setCells g o vs)
  | [], _, _, h => h
  | v :: r, o, w, h => below_setCells hg r (o + 1) (w.setCell ⟨g, o, none⟩ v) (h.setCell hg v)
end Go.Proofs.YtnjoimedilonnaaGreat
namespace Go.Proofs.YtnjoimedilonnaaGreat
end Go.Proofs.YtnjoimedilonnaaGreat
namespace Go.Proofs.YtnjoimedilonnaaGreat
open Go.RowKit
def SetNew (w : World) (M : AL) (z : Int) (e : Ending) (w' : World) : Prop := ∃ a len cap, e = .returned (.tuple #[.slice a len cap, .int .i64 z]) ∧ AttrRow w' a len cap M ∧ Below w.heap.size w w' ∧ ∀ b off, a = some ⟨b, off, none⟩ → w.heap.size ≤ b
theorem SetNew.post {w w' : World} {M : AL} {z : Int} {e : Ending} (h : SetNew w M z e w') : SetPost w M z e w' := by
  obtain ⟨a, len, cap, h1, h2, h3, _⟩ := h
  exact ⟨a, len, cap, h1, h2, h3⟩
theorem AttrRow.of_own_new {w : World} {base : Nat} {v : Value} {n : Nat} {M : AL} (hl : M.length = n) (h : w.ownsRow base 67 2 v n (M.flatMap encA)) (hs : ∀ x ∈ M, x.1.size ≤ maxLen ∧ x.2.size ≤ maxLen) :
    ∃ a cap, v = .slice a n cap ∧ AttrRow w a n cap M ∧ ∀ b off, a = some ⟨b, off, none⟩ → base ≤ b := by
  rcases h.2 with ⟨rfl, h0⟩ | ⟨g, cap, cur, rfl, _⟩
  · subst h0
    have hL : M = [] := List.eq_nil_of_length_eq_zero hl
    subst hL
    exact ⟨none, 0, rfl, ⟨SRow.nil, hs, fun _ => rfl⟩, fun b off h => by cases h⟩
  · obtain ⟨a, cap', he, hr, hb⟩ := SRow.of_own (fun x _ => encA_len x) hl h
    injection he with h1 h2 h3
    subst h1; subst h3
    exact ⟨_, _, rfl, ⟨hr, hs, fun h => by cases h⟩, hb⟩
theorem SetNew.mk {w w' : World} {M : AL} {z : Int} {e : Ending} {v : Value} {n : Nat} (he : e = .returned (.tuple #[v, .int .i64 z])) (hl : M.length = n) (h : w'.ownsRow w.heap.size 67 2 v n (M.flatMap encA)) (hs : ∀ x ∈ M, x.1.size ≤ maxLen ∧ x.2.size ≤ maxLen) (hb : Below w.heap.size w w') : SetNew w M z e w' := by
  obtain ⟨a, cap, rfl, h1, h2⟩ := AttrRow.of_own_new hl h hs
  exact ⟨a, n, cap, he, h1, hb, h2⟩
end Go.Proofs.YtnjoimedilonnaaGreat
namespace Go.Proofs.YtnjoimedilonnaaGreat
end Go.Proofs.YtnjoimedilonnaaGreat
namespace Go.Proofs.YtnjoimedilonnaaGreat
open Go.RowKit
theorem own_stay {w V : World} {base : Nat} {e : TypeId} {size n : Nat} {v : Value} {xs : List Value} {r : Option Nat} (h : w.ownsRow base e size v n xs) (hg : w.grownBy V r) (hr : ∀ k, v.ownBlock = some k → some k ≠ r) : V.ownsRow base e size v n xs := by
  refine ⟨h.1, ?_⟩
  rcases h.2 with h0 | ⟨g, cap, cur, hv, hb, hh, h1, h2, h3, h4⟩
  · exact .inl h0
  · have hlt : g < w.heap.size := by
      rcases Nat.lt_or_ge g w.heap.size with h | h
      · exact h
      · rw [Array.getElem?_eq_none h] at hh; cases hh
    exact .inr ⟨g, cap, cur, hv, hb, (hg.block g hlt (hr g (by rw [hv]; rfl))).trans hh, h1, h2, h3, h4⟩
theorem grown_refl (w : World) (r : Option Nat) : w.grownBy w r := ⟨rfl, rfl, rfl, Nat.le_refl _, fun _ _ _ => rfl⟩
theorem grown_by {w V : World} (hb : Below w.heap.size w V) (r : Option Nat) : w.grownBy V r := ⟨hb.os, hb.tape, hb.output, hb.size, fun k hk _ => hb.block k hk⟩
theorem grown_then {w W V : World} {r : Option Nat} (h : w.grownBy W r) (hb : Below W.heap.size W V) : w.grownBy V r :=
  ⟨hb.os.trans h.os, hb.tape.trans h.tape, hb.output.trans h.output, Nat.le_trans h.size hb.size, fun k hk hr => (hb.block k (Nat.lt_of_lt_of_le hk h.size)).trans (h.block k hk hr)⟩
theorem own_n {α : Type} {enc : α → List Value} {size : Nat} (henc : ∀ x, (enc x).length = size) (hpos : 0 < size) {w : World} {base : Nat} {e : TypeId} {v : Value} {n : Nat} {L : List α} (h : w.ownsRow base e size v n (L.flatMap enc)) : L.length = n := by
  have h1 := h.1
  rw [flat_len (fun x _ => henc x)] at h1
  exact Nat.eq_of_mul_eq_mul_right hpos h1
theorem LRow.of_own {α : Type} {enc : α → List Value} {size : Nat} {ok : α → Prop} (henc : ∀ x, (enc x).length = size) (hpos : 0 < size) {w : World} {base : Nat} {e : TypeId} {a : Option Addr} {n c : Nat} {L : List α} (h : w.ownsRow base e size (.slice a n c) n (L.flatMap enc)) (hok : ∀ x ∈ L, ok x) :
    LRow enc size ok w a n c L ∧ (∀ b o, a = some ⟨b, o, none⟩ → base ≤ b ∧ o = 0) := by
  obtain ⟨a', c', e', h2, h3⟩ := SRow.of_own (fun x _ => henc x) (own_n henc hpos h) h
  injection e' with e1 _ e3
  subst e1; subst e3
  rcases h.2 with ⟨hv, _⟩ | ⟨g, cap', cur, hv, _⟩
  · injection hv with e1 e2 e3
    subst e1; subst e2; subst e3
    exact ⟨⟨h2, hok, fun _ => rfl⟩, fun b o e => by cases e⟩
  · injection hv with e1 e2 e3
    subst e1
    exact ⟨⟨h2, hok, fun e => by cases e⟩, fun b o e => ⟨h3 b o e, by injection e with e; injection e with _ e; exact e.symm⟩⟩
def SHd.own {α : Type} (x : SHd α) : Option Nat := (Value.slice x.a x.n x.c).ownBlock
structure OwnRows {α : Type} (enc : α → List Value) (size : Nat) (ok : α → Prop) (base : Nat) (th te : TypeId) (W : World) (a : Option Addr) (n c : Nat) (T : List (SHd α)) : Prop where
  row : W.ownsRow base th 1 (.slice a n c) n (T.flatMap encH)
  each : ∀ x ∈ T, W.ownsRow base te size (.slice x.a x.n x.c) x.n (x.l.flatMap enc)
  ok : ∀ x ∈ T, ∀ y ∈ x.l, ok y
  apart : ∀ (i j : Nat) (x y : SHd α), i ≠ j → T[i]? = some x → T[j]? = some y → ∀ k, x.own = some k → some k ≠ y.own
section
variable {α : Type} {enc : α → List Value} {size : Nat} {ok : α → Prop} {base : Nat} {th te : TypeId} {W V : World} {a : Option Addr} {n c : Nat} {T : List (SHd α)}
theorem OwnRows.stay (h : OwnRows enc size ok base th te W a n c T) {r : Option Nat} (hg : W.grownBy V r) (h1 : ∀ k, (Value.slice a n c).ownBlock = some k → some k ≠ r) (h2 : ∀ x ∈ T, ∀ k, x.own = some k → some k ≠ r) : OwnRows enc size ok base th te V a n c T :=
  ⟨own_stay h.row hg h1, fun x hx => own_stay (h.each x hx) hg (h2 x hx), h.ok, h.apart⟩
theorem OwnRows.keep (h : OwnRows enc size ok base th te W a n c T) (hb : Below W.heap.size W V) : OwnRows enc size ok base th te V a n c T :=
  h.stay (grown_by hb none) (fun _ _ e => by cases e) (fun _ _ _ _ e => by cases e)
theorem OwnRows.hlen (h : OwnRows enc size ok base th te W a n c T) : T.length = n := own_n (fun x => encH_len x) (by decide) h.row
theorem OwnRows.hrow (h : OwnRows enc size ok base th te W a n c T) (henc : ∀ x, (enc x).length = size) (hpos : 0 < size) : HRow enc size ok W a n c T ∧ (∀ b o, a = some ⟨b, o, none⟩ → base ≤ b ∧ o = 0) ∧ ∀ x ∈ T, ∀ b o, x.a = some ⟨b, o, none⟩ → base ≤ b ∧ o = 0 := by
  have h1 := LRow.of_own (ok := fun _ : SHd α => True) (fun x => encH_len x) (by decide) h.row (fun _ _ => trivial)
  exact ⟨⟨h1.1.row, fun x hx => (LRow.of_own henc hpos (h.each x hx) (h.ok x hx)).1, h1.1.hnil⟩, h1.2, fun x hx => (LRow.of_own henc hpos (h.each x hx) (h.ok x hx)).2⟩
theorem OwnRows.lt (h : OwnRows enc size ok base th te W a n c T) {x : SHd α} (hx : x ∈ T) {k : Nat} (hk : x.own = some k) : base ≤ k ∧ k < W.heap.size := (h.each x hx).lt k hk
end
end Go.Proofs.YtnjoimedilonnaaGreat
namespace Go.Proofs.YtnjoimedilonnaaGreat
open Go.RowKit
structure CBox (W : World) (g : Nat) (cs : List Value) : Prop where
  lt : g < W.heap.size
  c : ∀ j v, cs[j]? = some v → W.cell? ⟨g, j, none⟩ = some v
  f : ∀ j, W.frozen? ⟨g, j, none⟩ = false
section
variable {W V : World} {g : Nat} {cs : List Value}
theorem CBox.keep (h : CBox W g cs) (hb : Below W.heap.size W V) : CBox V g cs :=
  ⟨Nat.lt_of_lt_of_le h.lt hb.size, fun j v hv => (hb.cell (p := ⟨g, j, none⟩) h.lt).trans (h.c j v hv), fun j => (hb.frozen (p := ⟨g, j, none⟩) h.lt).trans (h.f j)⟩
theorem CBox.drew (h : CBox W g cs) : CBox W.drew g cs := h.keep (Below.refl _ _).drew
theorem CBox.new (w : World) (cs : Array Value) (t : TypeId) : CBox (w.alloc (.cells cs t)) w.heap.size cs.toList := by
  refine ⟨by simp, fun j v hv => ?_, fun j => ?_⟩
  · have := cell_of_row (w.alloc (.cells cs t)) w.heap.size j cs t (0, 0) (heap_alloc_new w _)
    rw [this, ← Array.getElem?_toList]
    exact hv
  · have := heap_alloc_new w (.cells cs t)
    simp only [World.frozen?, this]
    rfl
theorem CBox.put (h : CBox W g cs) (j : Nat) (u : Value) (hj : j < cs.length) : CBox (W.setCell ⟨g, j, none⟩ u) g (cs.set j u) := by
  refine ⟨by have := h.lt; simpa [World.setCell] using this, fun i v hv => ?_, fun i => by rw [World.frozen?_setCell]; exact h.f i⟩
  by_cases e : j = i
  · subst e
    rw [List.getElem?_set_self hj] at hv
    injection hv with hv
    subst hv
    exact World.cell?_setCell_same _ _ _ (h.c j _ (List.getElem?_eq_getElem hj))
  · rw [List.getElem?_set_ne e] at hv
    rw [World.cell?_setCell_other _ _ _ _ (fun e2 => by injection e2 with _ e2; exact e e2)]
    exact h.c i v hv
theorem CBox.off (h : CBox W g cs) {b : Nat} (hb : b ≠ g) (o : Nat) (u : Value) : CBox (W.setCell ⟨b, o, none⟩ u) g cs :=
  ⟨by have := h.lt; simpa [World.setCell] using this, fun i v hv => by
    rw [World.cell?_setCell_other _ _ _ _ (fun e2 => by injection e2 with e2 _; exact hb e2)]
    exact h.c i v hv, fun i => by rw [World.frozen?_setCell]; exact h.f i⟩
end
theorem box_below (w : World) (B : Obj) : Below w.heap.size w (w.alloc B) := (Below.refl _ _).alloc (Nat.le_refl _) B
theorem CBox.row {α : Type} {enc : α → List Value} {size : Nat} {W : World} {g : Nat} {L : List α} {n : Nat} (h : CBox W g (L.flatMap enc)) (henc : ∀ x, (enc x).length = size) (hl : L.length = n) (hn : n ≤ maxLen) : SRow enc size W (some ⟨g, 0, none⟩) n n L := by
  refine ⟨hl, Nat.le_refl _, hn, fun x _ => henc x, .inr ⟨g, 0, rfl, h.lt, fun i x j v hx hv => ?_⟩⟩
  have hj : j < size := by
    have := (List.getElem?_eq_some_iff.1 hv).1
    rwa [henc x] at this
  rw [Nat.zero_add]
  refine h.c _ _ ?_
  rw [flat_get (fun y _ => henc y) hx hj]
  exact hv
end Go.Proofs.YtnjoimedilonnaaGreat
