/- Texts joined in build order: ForestMakesMath ForestEnds AttrRem AttrFind AttrClone AttrDelete AttrMath AttrSet2 ForestOrderMath StepRows StepWp OpenRows. -/
import Derived.Test.YtkomeijlljcdgaaGreatP09
import Derived.Test.YtkomeijlljcdgaaGreatP11
import Derived.Test.YtkomeijlljcdgaaGreatP05
import Derived.Test.YtkomeijlljcdgaaGreatP08
import Derived.Lib.SliceRun
import Derived.Deep.RegionLaw
import Derived.Laws.IdiomCopy
import Derived.Deep.MidRow
import Derived.Test.YtkomeijlljcdgaaGreatP03
import Derived.BigRegion
import Derived.OpenShut
/- A forest that is right with a bare node more is right. Plain mathematics, no program. -/
namespace Go.Proofs.YtkomeijlljcdgaaGreat
open Go.RowKit
theorem endsZ_none (nxt : Int → Int) (s : Nat) : endsZ nxt s (-1) = true := by
  cases s with
  | zero => rfl
  | succ s => unfold endsZ; rfl
theorem endsZ_more {nxt : Int → Int} : ∀ (s : Nat) (i : Int), endsZ nxt s i = true → endsZ nxt (s + 1) i = true
  | 0, i, h => by
    have e : i = -1 := by unfold endsZ at h; exact beq_iff_eq.1 h
    rw [e]
    exact endsZ_none _ _
  | s + 1, i, h => by
    by_cases e : i = -1
    · rw [e]
      exact endsZ_none _ _
    · rw [endsZ_step e] at h ⊢
      exact endsZ_more s _ h
theorem getC_app {F : List Core} {c d : Core} {i : Int} (h : getC F i = some d) : getC (F ++ [c]) i = some d := by
  obtain ⟨h1, h2, h3⟩ := getC_some h
  unfold getC
  rw [if_pos h1, List.getElem?_append_left h2, h3]
theorem nodeOk_app {F : List Core} {c : Core} {i : Nat} {y : Core} (h : nodeOk F i y = true) : nodeOk (F ++ [c]) i y = true := by
  unfold nodeOk at h ⊢
  simp only [Bool.and_eq_true, List.all_eq_true] at h ⊢
  obtain ⟨⟨⟨⟨⟨⟨h1, h2⟩, h3⟩, h4⟩, h5⟩, h6⟩, h7⟩ := h
  have kid : ∀ k ∈ y.kids, kindK (F ++ [c]) k = kindK F k := fun k hk => by
    have g := h3 k hk
    unfold kidOk at g
    unfold kindK
    cases hg : getC F k with
    | none => rw [hg] at g; simp at g
    | some d => rw [getC_app hg]
  have elems : elemsK (F ++ [c]) y = elemsK F y := by
    unfold elemsK
    refine List.countP_congr fun k hk => ?_
    rw [kid k hk]
  refine ⟨⟨⟨⟨⟨⟨?_, ?_⟩, ?_⟩, ?_⟩, ?_⟩, ?_⟩, h7⟩
  · unfold docOk at h1 ⊢
    cases hg : getC F y.doc with
    | none => rw [hg] at h1; simp at h1
    | some d => rw [hg] at h1; rw [getC_app hg]; exact h1
  · unfold parOk at h2 ⊢
    cases hg : getC F y.parent with
    | none => rw [hg, Bool.and_false, Bool.or_false] at h2; rw [h2, Bool.true_or]
    | some d => rw [hg] at h2; rw [getC_app hg]; exact h2
  · intro k hk
    have g := h3 k hk
    unfold kidOk at g ⊢
    cases hg : getC F k with
    | none => rw [hg] at g; simp at g
    | some d => rw [hg] at g; rw [getC_app hg]; exact g
  · unfold shapeOk at h4 ⊢
    rw [elems]
    exact h4
  · unfold hostOk at h5 ⊢
    by_cases hk : y.kind = 4
    · rw [if_pos hk] at h5 ⊢
      cases hg : getC F y.host with
      | none => rw [hg] at h5; cases h5
      | some d => rw [hg] at h5; rw [getC_app hg]; exact h5
    · rw [if_neg hk] at h5 ⊢
      exact h5
  · unfold underOk at h6 ⊢
    cases hg : getC F y.under with
    | none => rw [hg, Bool.and_false, Bool.or_false] at h6; rw [h6, Bool.true_or]
    | some d => rw [hg] at h6; rw [getC_app hg]; exact h6
theorem nextUp_app {F : List Core} {c : Core} (hp : c.parent = -1) (hh : c.host = -1) : nextUp (F ++ [c]) = nextUp F := by
  funext i
  unfold nextUp
  cases hg : getC F i with
  | some d => rw [getC_app hg]
  | none =>
    cases hq : getC (F ++ [c]) i with
    | none => rfl
    | some d =>
      obtain ⟨h1, h2, h3⟩ := getC_some hq
      have hn : F.length ≤ i.toNat := by
        unfold getC at hg
        rw [if_pos h1] at hg
        exact List.getElem?_eq_none_iff.1 hg
      rw [List.length_append] at h2
      have he : i.toNat = F.length := by simp at h2; omega
      rw [he, List.getElem?_append_right (Nat.le_refl _), Nat.sub_self] at h3
      have : c = d := by simpa using h3
      subst this
      dsimp only
      rw [if_pos hp, hh]
theorem right_app {m : Int} {F : List Core} {c : Core} (h : rightF m F = true) (hm : (F.length : Int) < m) (hp : c.parent = -1) (hh : c.host = -1) (hc : nodeOk (F ++ [c]) F.length c = true) : rightF m (F ++ [c]) = true := by
  obtain ⟨⟨h1, h2, h3, h4⟩, h5, h6⟩ := (rightF_iff m F).1 h
  refine (rightF_iff m _).2 ⟨⟨h1, h2, ?_, ?_⟩, fun i x hx => ?_, fun i hi => ?_⟩
  · rw [List.length_append]
    simp
    omega
  · cases F with
    | nil => unfold headDoc at h4; cases h4
    | cons _ _ => exact h4
  · by_cases hi : i < F.length
    · rw [List.getElem?_append_left hi] at hx
      exact nodeOk_app (h5 i x hx)
    · have hl := (List.getElem?_eq_some_iff.1 hx).1
      rw [List.length_append] at hl
      have he : i = F.length := by simp at hl; omega
      subst he
      rw [List.getElem?_append_right (Nat.le_refl _), Nat.sub_self] at hx
      have : c = x := by simpa using hx
      subst this
      exact hc
  · rw [nextUp_app hp hh, List.length_append]
    show endsZ (nextUp F) (F.length + 1 + 1) (i : Int) = true
    by_cases hl : i < F.length
    · exact endsZ_more _ _ (h6 i hl)
    · rw [endsZ_step (by omega)]
      have : nextUp F (i : Int) = -1 := by
        unfold nextUp
        rw [getC_nat, List.getElem?_eq_none_iff.2 (by omega)]
      rw [this]
      exact endsZ_none _ _
/-- What Make's answers are, where the forest is right. -/
theorem make_right {m : Int} {F : List Core} {x : Core} (h : rightF m F = true) (he : makeE m F x = 0) : rightF m (makeL m F x) = true ∧ makeL m F x = F ++ [bareC F x] ∧ makeN m F x = F.length := by
  have e2 : makeL m F x = F ++ [bareC F x] := by unfold makeL; rw [if_pos he]
  have e3 : makeN m F x = F.length := by unfold makeN; rw [if_pos he]
  refine ⟨?_, e2, e3⟩
  rw [e2]
  unfold makeE at he
  by_cases hc : (rightF m F && x.kind != 4 && nodeOk (F ++ [bareC F x]) F.length (bareC F x)) = true
  · rw [if_pos hc] at he
    by_cases hm : m ≤ (F.length : Int)
    · rw [if_pos hm] at he; cases he
    · simp only [Bool.and_eq_true] at hc
      exact right_app h (by omega) rfl rfl hc.2
  · rw [if_neg hc] at he; cases he
theorem make_not {m : Int} {F : List Core} {x : Core} (he : ¬ makeE m F x = 0) : makeL m F x = F ∧ makeN m F x = -1 := by
  unfold makeL makeN
  rw [if_neg he, if_neg he]
  exact ⟨rfl, rfl⟩
end Go.Proofs.YtkomeijlljcdgaaGreat
/- Ways up that end, end in few steps. Plain mathematics, no program. -/
namespace Go.Proofs.YtkomeijlljcdgaaGreat
theorem nodup_lt : ∀ (n : Nat) (l : List Nat), l.Nodup → (∀ x ∈ l, x < n) → l.length ≤ n
  | 0, l, _, h => by
    cases l with
    | nil => exact Nat.le_refl _
    | cons a r => exact absurd (h a (by simp)) (by omega)
  | n + 1, l, hn, h => by
    have h1 := nodup_lt n (l.filter (fun x => decide (x ≠ n))) (hn.filter _) (fun x hx => by
      have := List.mem_filter.1 hx
      have h2 := h x this.1
      have h3 := of_decide_eq_true this.2
      omega)
    have h2 : l.countP (fun x => decide (x ≠ n)) + l.countP (fun x => ! decide (x ≠ n)) = l.length := by
      have := List.length_eq_countP_add_countP (fun x => decide (x ≠ n)) (l := l)
      rw [this]
      congr 1
      refine List.countP_congr fun x _ => ?_
      simp
    have h3 : l.countP (fun x => ! decide (x ≠ n)) ≤ 1 := by
      have h4 : l.countP (fun x => ! decide (x ≠ n)) = l.count n := by
        unfold List.count
        refine List.countP_congr fun x _ => ?_
        simp
      rw [h4]
      exact List.nodup_iff_count.1 hn n
    rw [← List.countP_eq_length_filter] at h1
    omega
section
variable {nxt : Int → Int}
/-- It ends in just so many steps. -/
def exZ (nxt : Int → Int) (r : Nat) (i : Int) : Prop := endsZ nxt r i = true ∧ ∀ s, s < r → endsZ nxt s i = false
theorem exZ_of : ∀ (m : Nat) (i : Int), endsZ nxt m i = true → ∃ r, r ≤ m ∧ exZ nxt r i
  | m, i, h => by
    by_cases hs : ∃ s, s < m ∧ endsZ nxt s i = true
    · obtain ⟨s, hs, he⟩ := hs
      obtain ⟨r, hr, hx⟩ := exZ_of s i he
      exact ⟨r, by omega, hx⟩
    · exact ⟨m, Nat.le_refl _, h, fun s hl => by
        cases hq : endsZ nxt s i with
        | false => rfl
        | true => exact absurd ⟨s, hl, hq⟩ hs⟩
termination_by m => m
theorem exZ_one {r s : Nat} {i : Int} (h1 : exZ nxt r i) (h2 : exZ nxt s i) : r = s := by
  rcases Nat.lt_trichotomy r s with h | h | h
  · have := h2.2 r h
    rw [h1.1] at this
    cases this
  · exact h
  · have := h1.2 s h
    rw [h2.1] at this
    cases this
def chainZ (nxt : Int → Int) : Nat → Int → List Int
  | 0, _ => []
  | s + 1, i => i :: chainZ nxt s (nxt i)
theorem exZ_next {r : Nat} {i : Int} (h : exZ nxt (r + 1) i) : i ≠ -1 ∧ exZ nxt r (nxt i) := by
  have h0 := h.2 0 (by omega)
  have hi : i ≠ -1 := fun e => by
    rw [e] at h0
    cases h0
  refine ⟨hi, by rw [← endsZ_step hi]; exact h.1, fun s hs => ?_⟩
  rw [← endsZ_step hi]
  exact h.2 (s + 1) (by omega)
theorem chain_facts {n : Nat} (hr : ∀ i : Int, 0 ≤ i → i < n → nxt i = -1 ∨ (0 ≤ nxt i ∧ nxt i < n)) :
    ∀ (r : Nat) (i : Int), exZ nxt r i → (i = -1 ∨ (0 ≤ i ∧ i < (n : Int))) → (chainZ nxt r i).length = r ∧ (chainZ nxt r i).Nodup ∧ ∀ y ∈ chainZ nxt r i, (0 ≤ y ∧ y < (n : Int)) ∧ ∃ s, 0 < s ∧ s ≤ r ∧ exZ nxt s y
  | 0, i, _, _ => ⟨rfl, List.nodup_nil, fun y hy => by cases hy⟩
  | r + 1, i, h, hi => by
    obtain ⟨hne, hx⟩ := exZ_next h
    have hi2 : 0 ≤ i ∧ i < (n : Int) := by
      rcases hi with h | h
      · exact absurd h hne
      · exact h
    obtain ⟨h1, h2, h3⟩ := chain_facts hr r (nxt i) hx (hr i hi2.1 hi2.2)
    refine ⟨by unfold chainZ; rw [List.length_cons, h1], ?_, fun y hy => ?_⟩
    · unfold chainZ
      rw [List.nodup_cons]
      refine ⟨fun hm => ?_, h2⟩
      obtain ⟨_, s, _, hs2, hs3⟩ := h3 i hm
      have := exZ_one h hs3
      omega
    · unfold chainZ at hy
      rcases List.mem_cons.1 hy with rfl | hy
      · exact ⟨hi2, r + 1, by omega, Nat.le_refl _, h⟩
      · obtain ⟨h4, s, h5, h6, h7⟩ := h3 y hy
        exact ⟨h4, s, h5, by omega, h7⟩
theorem endsZ_le {r n : Nat} (h : r ≤ n) {i : Int} (he : endsZ nxt r i = true) : endsZ nxt n i = true := by
  obtain ⟨d, rfl⟩ : ∃ d, n = r + d := ⟨n - r, by omega⟩
  clear h
  induction d with
  | zero => exact he
  | succ d ih => exact endsZ_more _ _ ih
/-- Whoever comes to an end does so in no more steps than there are nodes. -/
theorem ends_small {n : Nat} (hr : ∀ i : Int, 0 ≤ i → i < n → nxt i = -1 ∨ (0 ≤ nxt i ∧ nxt i < n)) {m : Nat} {i : Int} (hi : i = -1 ∨ (0 ≤ i ∧ i < (n : Int))) (h : endsZ nxt m i = true) : endsZ nxt n i = true := by
  obtain ⟨r, _, hx⟩ := exZ_of m i h
  obtain ⟨h1, h2, h3⟩ := chain_facts hr r i hx hi
  have h4 : ((chainZ nxt r i).map Int.toNat).Nodup := by
    have key : ∀ l : List Int, l.Nodup → (∀ z ∈ l, 0 ≤ z) → (l.map Int.toNat).Nodup := by
      intro l
      induction l with
      | nil => intro _ _; simp
      | cons a r ih =>
        intro hl hp
        rw [List.nodup_cons] at hl
        rw [List.map_cons, List.nodup_cons]
        refine ⟨fun hm => ?_, ih hl.2 (fun z hz => hp z (by simp [hz]))⟩
        obtain ⟨z, hz, e⟩ := List.mem_map.1 hm
        have h1 := hp a (by simp)
        have h2 := hp z (by simp [hz])
        have : z = a := by omega
        exact hl.1 (this ▸ hz)
    exact key _ h2 (fun z hz => (h3 z hz).1.1)
  have h5 := nodup_lt n _ h4 (fun y hy => by
    obtain ⟨z, hz, rfl⟩ := List.mem_map.1 hy
    have := (h3 z hz).1
    omega)
  rw [List.length_map, h1] at h5
  exact endsZ_le h5 hx.1
end
end Go.Proofs.YtkomeijlljcdgaaGreat
/- instarref02's Remove and Toggle. -/
namespace Go.Proofs.YtkomeijlljcdgaaGreat
open Go.RowKit
/-- A call that hands back a list of attributes and a truth. -/
def RemPost (w : World) (M : AL) (z : Bool) (e : Ending) (w' : World) : Prop := ∃ a len cap, e = .returned (.tuple #[.slice a len cap, .bool z]) ∧ AttrRow w' a len cap M ∧ Below w.heap.size w w'
theorem RemPost.mk {w w' : World} {M : AL} {z : Bool} {e : Ending} {a : Option Addr} {len cap : Nat} (he : e = .returned (.tuple #[.slice a len cap, .bool z])) (h : AttrRow w' a len cap M) (hb : Below w.heap.size w w') : RemPost w M z e w' := ⟨a, len, cap, he, h, hb⟩
def offQ (n : List UInt8) (x : ByteArray × ByteArray) : Bool := !keyIs (smallL n) x
theorem remA_yes {L : AL} {n : List UInt8} (h : hasA L n = true) : remA L n = L.filter (offQ n) := by unfold remA; rw [if_pos h]; rfl
theorem remA_no {L : AL} {n : List UInt8} (h : hasA L n = false) : remA L n = L := by unfold remA; rw [if_neg (by rw [h]; decide)]
theorem filter_step {α : Type} {L : List α} {q : α → Bool} {k : Nat} {x : α} (hx : L[k]? = some x) : (L.take (k + 1)).filter q = (L.take k).filter q ++ (if q x then [x] else []) := by
  obtain ⟨hl, hg⟩ := List.getElem?_eq_some_iff.1 hx
  rw [List.take_succ_eq_append_getElem hl, hg, List.filter_append]
  congr 1
  rw [List.filter_cons]
  rfl
theorem hasA_right {L : AL} {n : List UInt8} (h : hasA L n = true) : rightA L = true ∧ rightL n = true ∧ placeA L n < L.length := by
  unfold hasA at h
  simpa [and_assoc] using h

/-- A call that hands back a list of attributes, a truth and a number. -/
def TogPost (w : World) (M : AL) (t : Bool) (z : Int) (e : Ending) (w' : World) : Prop := ∃ a len cap, e = .returned (.tuple #[.slice a len cap, .bool t, .int .i64 z]) ∧ AttrRow w' a len cap M ∧ Below w.heap.size w w'
theorem TogPost.mk {w w' : World} {M : AL} {t : Bool} {z : Int} {e : Ending} {a : Option Addr} {len cap : Nat} (he : e = .returned (.tuple #[.slice a len cap, .bool t, .int .i64 z])) (h : AttrRow w' a len cap M) (hb : Below w.heap.size w w') : TogPost w M t z e w' := ⟨a, len, cap, he, h, hb⟩
/-- What Toggle hands back: the list, whether it is there then, the error's number. -/
def togA (L : AL) (n : List UInt8) (f : Int) : AL :=
  if rightA L && rightL n then (if hasA L n then (if 0 < f then L else remA L n) else (if f < 0 then L else setA L n (ofL []))) else L
def togB (L : AL) (n : List UInt8) (f : Int) : Bool :=
  if rightA L && rightL n then (if hasA L n then decide (0 < f) else (if f < 0 then false else (setE L n (ofL []) == 0))) else false
def togE (L : AL) (n : List UInt8) (f : Int) : Int :=
  if rightA L then (if rightL n then (if hasA L n then 0 else (if f < 0 then 0 else setE L n (ofL []))) else 4) else 1
end Go.Proofs.YtkomeijlljcdgaaGreat
/- Package attr's find and fits. -/
namespace Go.Proofs.YtkomeijlljcdgaaGreat
open Go.RowKit Go.Maps Go.WideMaps
/-- What find answers. -/
def findI (L : AL) (n : List UInt8) : Int := if rightA L && rightL n then atL L (smallL n) else -1
def findS (L : AL) (n : List UInt8) : List UInt8 := if rightA L && rightL n then smallL n else []
def findE (L : AL) (n : List UInt8) : Int := if rightA L then (if rightL n then 0 else 4) else 1
end Go.Proofs.YtkomeijlljcdgaaGreat
/- slices.Clone on attributes, and package attr's Get. -/
namespace Go.Proofs.YtkomeijlljcdgaaGreat
open Go.RowKit
/-- A slice that the call made itself, and that reads as L. -/
def OwnPost (w : World) (L : AL) (e : Ending) (w' : World) : Prop := ∃ v, e = .returned v ∧ w'.ownsRow w.heap.size 109 2 v L.length (L.flatMap encA) ∧ Below w.heap.size w w'
set_option maxHeartbeats 4000000 in
theorem clone_any (a : Option Addr) (len cap : Nat) (L : AL) (w : World) (h : AttrRow w a len cap L) (h40 : len ≤ 1000000) :
    Calls Tryz.prog 107 #[.slice a len cap] w (OwnPost w L) := by
  obtain ⟨i0, hi0, hz0, hz1, hz2⟩ := info_parts attr_info
  have HL := Lib.hid h.hlen
  have q22 : ∀ (w : World) (a : Option Addr) (n c n' c' : Nat), (binOp .eql 45 (.slice a n c) (.slice none n' c')).run Tryz.prog w = .ok (.bool a.isNone) w := fun w a n c n' c' => Lib.run_eql_slice_nil w _ _ a n c n' c' Tryz.underlying45
  rcases a with _ | ad
  · have hc : cap = 0 := h.hnil rfl
    have h0 : len = 0 := by have := h.row.hcap; omega
    have hLn : L = [] := List.eq_nil_of_length_eq_zero (by rw [h.hlen, h0])
    subst hc; subst h0; subst hLn
    clear h
    go_enter Tryz.func107, Tryz.ntmps107
    go_wp2
    go_ret
    exact ⟨_, rfl, World.ownsRow_nil _ _ _ _, Below.refl _ _⟩
  · have H := Lib.hid h
    have hE := own_empty (α := ByteArray × ByteArray) (enc := encA) (size := 2) w w.heap.size 109 (Nat.le_refl _)
    have HE := Lib.hid hE
    clear h hE
    go_enter Tryz.func107, Tryz.ntmps107
    go_wp2_with (first
      | (at_builtin
         refine wpList_append_rows rfl (.tmp 5) (.tmp 6) 45 rfl 109 i0 _ 2 32 Tryz.underlying45 hi0 hz0 hz1 hz2 rfl (by decide) w.heap.size _ 0 _ L rfl HE.out (some ad) len cap rfl (H.out.below ((Below.refl _ _).alloc (Nat.le_refl _) _)).row (fun x _ => encA_one x) (by unfold maxLen; omega) (by omega) (by simp) (fun h => by cases h) ?_
         intro v2 w2 hown2 hg2 hat2
         have HB2 := below_new (Below.refl _ _) hg2
         have HO2 := Lib.hid hown2
         clear hown2 hg2 hat2))
    go_ret
    refine ⟨_, rfl, ?_, HB2⟩
    have := HO2.out
    rw [HL.out]
    simpa using this
end Go.Proofs.YtkomeijlljcdgaaGreat
/- slices.Delete of one attribute of a slice that the call made itself. -/
namespace Go.Proofs.YtkomeijlljcdgaaGreat
open Go.RowKit
theorem below_setCells {B g : Nat} {a : World} (hg : B ≤ g) : ∀ (vs : List Value) (o : Nat) (w : World), Below B a w → Below B a (w.setCells g o vs)
  | [], _, _, h => h
  | v :: r, o, w, h => below_setCells hg r (o + 1) (w.setCell ⟨g, o, none⟩ v) (h.setCell hg v)
theorem size_setCells (g : Nat) : ∀ (vs : List Value) (o : Nat) (w : World), (w.setCells g o vs).heap.size = w.heap.size
  | [], _, _ => rfl
  | v :: r, o, w => by
    show ((w.setCell ⟨g, o, none⟩ v).setCells g (o + 1) r).heap.size = _
    rw [size_setCells g r]
    simp [World.setCell]
/-- clear of a slice of attributes. -/
theorem run_clear_attrs (w : World) (ty : TypeId) (b o n c : Nat) (hn : 0 < n) (hc : ∀ j, j < n * 2 → (w.cell? ⟨b, o + j, none⟩).isSome = true) (hf : ∀ j, j < n * 2 → w.frozen? ⟨b, o + j, none⟩ = false) :
    (Builtin.clear_ #[45] ty #[.slice (some ⟨b, o, none⟩) n c]).run Tryz.prog w = .ok (.tuple #[]) (w.setCells b o (List.replicate (n * 2) (.string ⟨#[]⟩))) := by
  have hzc : (Builtin.zeroCells #[Value.string ⟨#[]⟩, .string ⟨#[]⟩] n).toList = List.replicate (n * 2) (.string ⟨#[]⟩) := by
    simp [Builtin.zeroCells]
    apply List.ext_getElem
    · simp
    · intro i h1 h2
      have : i % 2 = 0 ∨ i % 2 = 1 := by omega
      rcases this with h | h <;> simp [h]
  have hst := run_storeCells_cells (P := Tryz.prog) b o (List.replicate (n * 2) (.string ⟨#[]⟩)) 0 w (by simpa using hc) (by simpa using hf) (by intro v hv'; rw [List.eq_of_mem_replicate hv']; rfl)
  simp only [Nat.add_zero] at hst
  obtain ⟨m, rfl⟩ : ∃ m, n = m + 1 := ⟨n - 1, by omega⟩
  have hz2 : (Value.agg #[.string ⟨#[]⟩, .string ⟨#[]⟩]).cells = #[Value.string ⟨#[]⟩, .string ⟨#[]⟩] := by simp [Value.cells]
  simp [Builtin.clear_, run_underlying Tryz.underlying45, hz2, hzc, hst]
theorem eraseIdx_cells {L : AL} {i : Nat} (k : Nat) : (L.eraseIdx i)[k]? = if k < i then L[k]? else L[k + 1]? := by
  rw [List.getElem?_eraseIdx]
/-- What a list without its i-th attribute reads as, where i's cells and what stood behind have been laid anew. -/
theorem delete_row {w w' : World} {g n cap i : Nat} {L : AL} (hL : L.length = n) (hi : i < n) (hcap : n ≤ cap) (hmax : cap ≤ maxLen) (hs : ∀ x ∈ L, x.1.size ≤ maxLen ∧ x.2.size ≤ maxLen) (hg : g < w'.heap.size)
    (h : ∀ k u, (L.flatMap encA)[k]? = some u → w.cell? ⟨g, k, none⟩ = some u)
    (hlo : ∀ k, k < i * 2 → w'.cell? ⟨g, k, none⟩ = w.cell? ⟨g, k, none⟩) (hhi : ∀ k, i * 2 ≤ k → k < (n - 1) * 2 → w'.cell? ⟨g, k, none⟩ = w.cell? ⟨g, k + 2, none⟩) :
    AttrRow w' (some ⟨g, 0, none⟩) (n - 1) cap (L.eraseIdx i) := by
  have hlen : (L.eraseIdx i).length = n - 1 := by rw [List.length_eraseIdx, hL, if_pos hi]
  refine ⟨⟨hlen, by omega, hmax, fun x _ => encA_len x, .inr ⟨g, 0, rfl, hg, fun k x j v hx hv => ?_⟩⟩, fun x hx => hs x (List.mem_of_mem_eraseIdx hx), fun h => by cases h⟩
  have hj : j < 2 := (List.getElem?_eq_some_iff.1 hv).1
  have hk : k < n - 1 := by rw [← hlen]; exact (List.getElem?_eq_some_iff.1 hx).1
  rw [eraseIdx_cells] at hx
  rw [Nat.zero_add]
  by_cases hki : k < i
  · rw [if_pos hki] at hx
    rw [hlo _ (by omega)]
    exact h _ _ ((flat_get (fun x _ => encA_len x) hx hj).trans hv)
  · rw [if_neg hki] at hx
    rw [hhi _ (by omega) (by omega), show k * 2 + j + 2 = (k + 1) * 2 + j by omega]
    exact h _ _ ((flat_get (fun x _ => encA_len x) hx hj).trans hv)
/-- What slices.Delete leaves. -/
def DelPost (base g n cap : Nat) (L : AL) (i : Nat) (w : World) (e : Ending) (w' : World) : Prop := e = .returned (.slice (some ⟨g, 0, none⟩) (n - 1) cap) ∧ AttrRow w' (some ⟨g, 0, none⟩) (n - 1) cap (L.eraseIdx i) ∧ Below base w w'
end Go.Proofs.YtkomeijlljcdgaaGreat
/- Plain facts on lists of attributes: right lists have no name twice; what is got behind setting and removing. -/
namespace Go.Proofs.YtkomeijlljcdgaaGreat
def keyA (x : ByteArray × ByteArray) : List UInt8 := x.1.toList
def fineA (x : ByteArray × ByteArray) : Prop := rightL (keyA x) = true ∧ smallL (keyA x) = keyA x ∧ x.2.size ≤ 200
def lookA (L : AL) (k : List UInt8) : Option ByteArray := (L.find? (keyIs k)).map (·.2)
theorem keyIs_iff {n : List UInt8} {x : ByteArray × ByteArray} : keyIs n x = true ↔ keyA x = n := by unfold keyIs keyA; simp
theorem atN_get (L : AL) (n : List UInt8) : L[atN L n]? = L.find? (keyIs n) := by
  unfold atN
  induction L with
  | nil => rfl
  | cons x r ih =>
    by_cases h : keyIs n x = true
    · rw [List.findIdx_cons, List.find?_cons]; simp [h]
    · rw [List.findIdx_cons, List.find?_cons]; simp [h, ih]
theorem nodup_at (L : AL) : (∀ (k : Nat) x, L[k]? = some x → atN L (keyA x) = k) ↔ (L.map keyA).Nodup := by
  unfold List.Nodup
  rw [List.pairwise_iff_getElem]
  constructor
  · intro h i j hi hj hij he
    simp only [List.length_map] at hi hj
    simp only [List.getElem_map] at he
    have h1 := h i _ (List.getElem?_eq_getElem hi)
    have h2 := h j _ (List.getElem?_eq_getElem hj)
    rw [he] at h1
    omega
  · intro h k x hx
    obtain ⟨hl, hg⟩ := List.getElem?_eq_some_iff.1 hx
    have hle : atN L (keyA x) ≤ k := by
      rcases Nat.lt_or_ge k (atN L (keyA x)) with h1 | h1
      · have := List.not_of_lt_findIdx h1
        rw [hg, keyIs_iff.2 rfl] at this
        cases this
      · exact h1
    rcases Nat.lt_or_ge (atN L (keyA x)) k with h1 | h1
    · have hl1 : atN L (keyA x) < L.length := by omega
      have h2 : keyIs (keyA x) (L[atN L (keyA x)]'hl1) = true := List.findIdx_getElem (w := hl1)
      have h3 := h (atN L (keyA x)) k (by simpa using hl1) (by simpa using hl) h1
      simp only [List.getElem_map] at h3
      rw [keyIs_iff.1 h2, hg] at h3
      exact absurd rfl h3
    · omega
theorem right_iff (L : AL) : rightA L = true ↔ L.length ≤ 40 ∧ (∀ x ∈ L, fineA x) ∧ (L.map keyA).Nodup := by
  rw [rightA_iff, ← nodup_at]
  constructor
  · rintro ⟨h1, h2⟩
    refine ⟨h1, fun x hx => ?_, fun k x hx => ?_⟩
    · obtain ⟨k, hk, he⟩ := List.mem_iff_getElem.1 hx
      have := h2 k x (by rw [List.getElem?_eq_getElem hk, he])
      unfold okAt at this
      simp at this
      exact ⟨this.1.1.1, this.1.1.2, this.1.2⟩
    · have := h2 k x hx
      unfold okAt at this
      simp at this
      exact this.2
  · rintro ⟨h1, h2, h3⟩
    refine ⟨h1, fun k x hx => ?_⟩
    obtain ⟨f1, f2, f3⟩ := h2 x (List.mem_of_getElem? hx)
    have f4 := h3 k x hx
    unfold keyA at *
    unfold okAt
    rw [f1, f2, decide_eq_true f3, decide_eq_true f4]
    simp
theorem place_none {L : AL} {n : List UInt8} (h : ¬ placeA L n < L.length) : ∀ x ∈ L, keyA x ≠ smallL n := by
  intro x hx he
  have : atN L (smallL n) < L.length := List.findIdx_lt_length_of_exists ⟨x, hx, keyIs_iff.2 he⟩
  exact h this
theorem has_iff (L : AL) (n : List UInt8) : hasA L n = (rightA L && rightL n && (lookA L (smallL n)).isSome) := by
  unfold hasA
  congr 1
  have h := atN_get L (smallL n)
  unfold lookA
  rw [← h]
  unfold placeA
  by_cases hp : atN L (smallL n) < L.length
  · rw [decide_eq_true hp, List.getElem?_eq_getElem hp]; rfl
  · rw [decide_eq_false hp, List.getElem?_eq_none (by omega)]; rfl
theorem val_iff (L : AL) (n : List UInt8) : valA L n = if hasA L n then (lookA L (smallL n)).getD (ofL []) else ofL [] := by
  unfold valA
  by_cases h : hasA L n = true
  · rw [if_pos h, if_pos h]
    unfold lookA
    rw [← atN_get]
    have hp := (hasA_right h).2.2
    unfold placeA at *
    rw [List.getElem?_eq_getElem hp]
    rfl
  · rw [if_neg h, if_neg h]
theorem set_parts {L : AL} {n : List UInt8} {v : ByteArray} (h : setE L n v = 0) : rightA L = true ∧ rightL n = true ∧ longA L n v = false := by
  unfold setE at h
  by_cases h1 : rightA L = true
  · rw [if_pos h1] at h
    by_cases h2 : rightL n = true
    · rw [if_pos h2] at h
      by_cases h3 : longA L n v = true
      · rw [if_pos h3] at h; cases h
      · exact ⟨h1, h2, by simpa using h3⟩
    · rw [if_neg h2] at h; cases h
  · rw [if_neg h1] at h; cases h
theorem setA_eq {L : AL} {n : List UInt8} {v : ByteArray} (h : setE L n v = 0) : setA L n v = setL L n v := by unfold setA; rw [if_pos h]
theorem setA_ne {L : AL} {n : List UInt8} {v : ByteArray} (h : ¬ setE L n v = 0) : setA L n v = L := by unfold setA; rw [if_neg h]
theorem key_ofL (k : List UInt8) (v : ByteArray) : keyA (ofL k, v) = k := toList_ofL k
theorem set_keys {L : AL} {n : List UInt8} (v : ByteArray) (hp : placeA L n < L.length) : (L.set (placeA L n) (ofL (smallL n), v)).map keyA = L.map keyA := by
  obtain ⟨x, hx, hk⟩ := place_key hp
  obtain ⟨hl, hg⟩ := List.getElem?_eq_some_iff.1 hx
  rw [List.map_set, key_ofL]
  apply List.ext_getElem (by simp)
  intro i h1 h2
  by_cases e : placeA L n = i
  · subst e
    simp [hg]
    rw [show keyA x = x.1.toList from rfl, hk, toList_ofL]
  · simp [e]
theorem setL_right {L : AL} {n : List UInt8} {v : ByteArray} (h : setE L n v = 0) : rightA (setL L n v) = true := by
  obtain ⟨h1, h2, h3⟩ := set_parts h
  obtain ⟨g1, g2, g3⟩ := (right_iff L).1 h1
  have hf : fineA (ofL (smallL n), v) := by
    refine ⟨by rw [key_ofL, right_small]; exact h2, by rw [key_ofL, smallL_twice], ?_⟩
    unfold longA at h3
    simp at h3
    show v.size ≤ 200
    omega
  rw [right_iff]
  unfold setL
  by_cases hp : placeA L n < L.length
  · rw [if_pos hp]
    refine ⟨by rw [List.length_set]; exact g1, fun x hx => ?_, by rw [set_keys v hp]; exact g3⟩
    rcases List.mem_or_eq_of_mem_set hx with hx | rfl
    · exact g2 x hx
    · exact hf
  · rw [if_neg hp]
    have h40 : L.length < 40 := by
      unfold longA at h3
      simp at h3
      omega
    refine ⟨by rw [List.length_append]; simp; omega, fun x hx => ?_, ?_⟩
    · rcases List.mem_append.1 hx with hx | hx
      · exact g2 x hx
      · simp at hx; subst hx; exact hf
    · rw [List.map_append, List.nodup_append]
      refine ⟨g3, by simp, fun a ha b hb => ?_⟩
      simp at hb
      subst hb
      obtain ⟨x, hx, rfl⟩ := List.mem_map.1 ha
      rw [show keyA (ofL (smallL n), v) = smallL n from key_ofL _ _]
      exact place_none hp x hx
theorem look_set_same {L : AL} {n : List UInt8} (v : ByteArray) : lookA (setL L n v) (smallL n) = some v := by
  unfold setL lookA
  have hk : keyIs (smallL n) (ofL (smallL n), v) = true := keyIs_iff.2 (key_ofL _ _)
  by_cases hp : placeA L n < L.length
  · rw [if_pos hp, ← atN_get]
    have : atN (L.set (placeA L n) (ofL (smallL n), v)) (smallL n) = placeA L n := by
      refine atN_here ?_ (x := (ofL (smallL n), v)) (by rw [List.getElem?_set_self hp]) hk
      rcases Nat.lt_or_ge (atN (L.set (placeA L n) (ofL (smallL n), v)) (smallL n)) (placeA L n) with h1 | h1
      · have hl : atN (L.set (placeA L n) (ofL (smallL n), v)) (smallL n) < (L.set (placeA L n) (ofL (smallL n), v)).length := by rw [List.length_set]; omega
        have h2 : keyIs (smallL n) ((L.set (placeA L n) (ofL (smallL n), v))[atN (L.set (placeA L n) (ofL (smallL n), v)) (smallL n)]'hl) = true := List.findIdx_getElem (w := hl)
        rw [List.getElem_set_ne (by omega)] at h2
        have h3 := List.not_of_lt_findIdx (xs := L) (p := keyIs (smallL n)) (i := atN (L.set (placeA L n) (ofL (smallL n), v)) (smallL n)) h1
        rw [h2] at h3
        cases h3
      · exact h1
    rw [this, List.getElem?_set_self hp]
    rfl
  · rw [if_neg hp, List.find?_append]
    have : L.find? (keyIs (smallL n)) = none := by
      rw [List.find?_eq_none]
      intro x hx h
      exact place_none hp x hx (keyIs_iff.1 h)
    rw [this]
    simp [hk]
theorem look_set_other {L : AL} {n k : List UInt8} (v : ByteArray) (hk : k ≠ smallL n) : lookA (setL L n v) k = lookA L k := by
  have hno : keyIs k (ofL (smallL n), v) = false := by
    by_cases h : keyIs k (ofL (smallL n), v) = true
    · have := keyIs_iff.1 h
      rw [key_ofL] at this
      exact absurd this.symm hk
    · simpa using h
  unfold setL lookA
  by_cases hp : placeA L n < L.length
  · rw [if_pos hp]
    obtain ⟨x, hx, hxk⟩ := place_key hp
    have hxno : keyIs k x = false := by
      by_cases h : keyIs k x = true
      · have := keyIs_iff.1 h
        rw [show keyA x = x.1.toList from rfl, hxk, toList_ofL] at this
        exact absurd this.symm hk
      · simpa using h
    generalize placeA L n = p at hp hx
    induction L generalizing p with
    | nil => simp at hx
    | cons y r ih =>
      cases p with
      | zero =>
        simp at hx; subst hx
        rw [List.set_cons_zero, List.find?_cons, List.find?_cons, hno, hxno]
      | succ p =>
        rw [List.set_cons_succ, List.find?_cons, List.find?_cons]
        by_cases hy : keyIs k y = true
        · simp [hy]
        · have hy : keyIs k y = false := by simpa using hy
          simp only [hy]
          exact ih p (by simpa using hp) (by simpa using hx)
  · rw [if_neg hp, List.find?_append]
    simp [hno]
theorem look_filter {L : AL} {n k : List UInt8} (hk : k ≠ smallL n) : lookA (L.filter (offQ n)) k = lookA L k := by
  unfold lookA
  rw [List.find?_filter]
  congr 2
  funext x
  unfold offQ
  by_cases h : keyIs k x = true
  · have h1 := keyIs_iff.1 h
    have h2 : keyIs (smallL n) x = false := by
      by_cases h2 : keyIs (smallL n) x = true
      · exact absurd (h1.symm.trans (keyIs_iff.1 h2)) hk
      · simpa using h2
    rw [h, h2]
    rfl
  · have h : keyIs k x = false := by simpa using h
    rw [h]
    simp
theorem filter_right {L : AL} (q : ByteArray × ByteArray → Bool) (h : rightA L = true) : rightA (L.filter q) = true := by
  obtain ⟨g1, g2, g3⟩ := (right_iff L).1 h
  rw [right_iff]
  refine ⟨Nat.le_trans (List.length_filter_le _ _) g1, fun x hx => g2 x (List.mem_filter.1 hx).1, ?_⟩
  exact List.Nodup.sublist (List.Sublist.map _ List.filter_sublist) g3
end Go.Proofs.YtkomeijlljcdgaaGreat
/- Package attr's Set. -/
namespace Go.Proofs.YtkomeijlljcdgaaGreat
open Go.RowKit
/-- As SetPost, and the list handed back lies in new memory. -/
def SetNew (w : World) (M : AL) (z : Int) (e : Ending) (w' : World) : Prop := ∃ a len cap, e = .returned (.tuple #[.slice a len cap, .int .i64 z]) ∧ AttrRow w' a len cap M ∧ Below w.heap.size w w' ∧ ∀ b off, a = some ⟨b, off, none⟩ → w.heap.size ≤ b
theorem SetNew.post {w w' : World} {M : AL} {z : Int} {e : Ending} (h : SetNew w M z e w') : SetPost w M z e w' := by
  obtain ⟨a, len, cap, h1, h2, h3, _⟩ := h
  exact ⟨a, len, cap, h1, h2, h3⟩
/-- A row that the call owns, as a list of attributes in new memory. -/
theorem AttrRow.of_own_new {w : World} {base : Nat} {v : Value} {n : Nat} {M : AL} (hl : M.length = n) (h : w.ownsRow base 109 2 v n (M.flatMap encA)) (hs : ∀ x ∈ M, x.1.size ≤ maxLen ∧ x.2.size ≤ maxLen) :
    ∃ a cap, v = .slice a n cap ∧ AttrRow w a n cap M ∧ ∀ b off, a = some ⟨b, off, none⟩ → base ≤ b := by
  rcases h.2 with ⟨rfl, h0⟩ | ⟨g, cap, cur, rfl, _⟩
  · subst h0
    have hL : M = [] := List.eq_nil_of_length_eq_zero hl
    subst hL
    exact ⟨none, 0, rfl, ⟨SRow.nil, hs, fun _ => rfl⟩, fun b off h => by cases h⟩
  · obtain ⟨a, cap', he, hr, hb⟩ := SRow.of_own (fun x _ => encA_len x) hl h
    injection he with h1 h2 h3
    subst h1; subst h3
    exact ⟨_, _, rfl, ⟨hr, hs, fun h => by cases h⟩, hb⟩
theorem SetNew.mk {w w' : World} {M : AL} {z : Int} {e : Ending} {v : Value} {n : Nat} (he : e = .returned (.tuple #[v, .int .i64 z])) (hl : M.length = n) (h : w'.ownsRow w.heap.size 109 2 v n (M.flatMap encA)) (hs : ∀ x ∈ M, x.1.size ≤ maxLen ∧ x.2.size ≤ maxLen) (hb : Below w.heap.size w w') : SetNew w M z e w' := by
  obtain ⟨a, cap, rfl, h1, h2⟩ := AttrRow.of_own_new hl h hs
  exact ⟨a, n, cap, he, h1, hb, h2⟩
theorem clone_own (a : Option Addr) (len cap : Nat) (L : AL) (w W : World) (h : AttrRow w a len cap L) (h40 : len ≤ 1000000) (hb : Below w.heap.size w W) :
    Calls Tryz.prog 107 #[.slice a len cap] W fun e w' => ∃ v, e = .returned v ∧ w'.ownsRow w.heap.size 109 2 v len (L.flatMap encA) ∧ Below w.heap.size w w' :=
  (clone_any a len cap L W (h.below hb) h40).mono fun e w' ⟨v, he, hown, hb2⟩ => ⟨v, he, by
    rw [h.hlen] at hown
    refine ⟨hown.1, ?_⟩
    rcases hown.2 with h | ⟨g, cap, cur, h1, h2, h3⟩
    · exact .inl h
    · exact .inr ⟨g, cap, cur, h1, Nat.le_trans hb.size h2, h3⟩, hb.trans (hb2.mono hb.size)⟩
theorem find_ok {L : AL} {n : List UInt8} (hr : rightA L = true) (hn : rightL n = true) : findI L n = atL L (smallL n) ∧ findS L n = smallL n ∧ findE L n = 0 := by
  unfold findI findS findE
  rw [hr, hn]
  exact ⟨rfl, rfl, rfl⟩
end Go.Proofs.YtkomeijlljcdgaaGreat
/- What the law ForestOrder asks, over data: facts of forests that are right. Plain mathematics, no program. -/
namespace Go.Proofs.YtkomeijlljcdgaaGreat
open Go.RowKit
theorem hasZ_nodup : ∀ {L : List Int} {n : Int}, L.Nodup → hasZ L n = if n ∈ L then 1 else 0
  | [], n, _ => rfl
  | z :: l, n, h => by
    have h2 := List.nodup_cons.1 h
    have ih := hasZ_nodup (n := n) h2.2
    unfold hasZ at ih ⊢
    rw [List.countP_cons, ih]
    by_cases e : z = n
    · subst e
      rw [if_neg h2.1, if_pos (by simp), if_pos (List.mem_cons_self ..)]
    · rw [if_neg (show ¬ ((z == n) = true) from fun g => e (beq_iff_eq.1 g))]
      by_cases hm : n ∈ l
      · rw [if_pos hm, if_pos (List.mem_cons_of_mem _ hm)]
      · rw [if_neg hm, if_neg (fun g => by rcases List.mem_cons.1 g with g | g; exact e g.symm; exact hm g)]
theorem findZ_at {L : List Int} {n : Int} {j : Nat} (h : L.Nodup) (hj : L[j]? = some n) : findZ L n = (j : Int) := by
  obtain ⟨k, hk, hg⟩ := find_at (List.mem_of_getElem? hj)
  obtain ⟨h1, e1⟩ := List.getElem?_eq_some_iff.1 hg
  obtain ⟨h2, e2⟩ := List.getElem?_eq_some_iff.1 hj
  have := (List.getElem_inj h).1 (e1.trans e2.symm)
  rw [hk, this]
/-- What is asked of an order, and of two nodes. -/
structure OrderFacts (m : Int) (F : List Core) (x y : Nat) (l : List Int) : Prop where
  pos : l[0]? = some (x : Int)
  len : l.length ≤ F.length
  num : ∀ (i : Nat) z, l[i]? = some z → ∃ n : Nat, z = (n : Int) ∧ n < F.length
  many : ∀ n : Nat, n < F.length → hasZ l (n : Int) = if holdsZ m F x n then 1 else 0
  step : ∀ (i : Nat) (n : Nat) c, 1 ≤ i → l[i]? = some (n : Int) → F[n]? = some c → ∃ (j p : Nat), j < i ∧ p < F.length ∧ c.parent = (p : Int) ∧ findZ l p = (j : Int) ∧ ∀ (k q : Nat), j < k → k < i → l[k]? = some (q : Int) → holdsZ m F p q = true ∧ holdsZ m F n q = false
  one : rootZ m F x = rootZ m F y → x ≠ y → aheadZ m F x y = !aheadZ m F y x
  apart : rootZ m F x ≠ rootZ m F y → aheadZ m F x y = false ∧ aheadZ m F y x = false
  self : x = y → aheadZ m F x y = false ∧ aheadZ m F y x = false
  held : holdsZ m F x y = true → x ≠ y → aheadZ m F x y = true
theorem ordZ_eq {m : Int} {F : List Core} (h : rightF m F = true) {a : Nat} (ha : a < F.length) : ordZ m F (a : Int) = (ordF F a).map Int.ofNat := by
  unfold ordZ
  rw [thereF_of h ha]
  rfl
theorem aheadZ_eq {m : Int} {F : List Core} (h : rightF m F = true) {a b : Nat} (ha : a < F.length) (hb : b < F.length) : aheadZ m F (a : Int) (b : Int) = aheadF F a b := by
  unfold aheadZ
  rw [thereF_of h ha, thereF_of h hb]
  rfl
theorem nodup_sub : ∀ (n : Nat) (l : List Nat), l.Nodup → (∀ x ∈ l, x < n) → l.length ≤ n
  | 0, l, _, hs => by
    cases l with
    | nil => exact Nat.le_refl _
    | cons a r => exact absurd (hs a (List.mem_cons_self ..)) (by omega)
  | n + 1, l, h, hs => by
    have ih := nodup_sub n (l.erase n) (h.erase n) (fun x hx => by
      have := (List.Nodup.mem_erase_iff h).1 hx
      have := hs x this.2
      omega)
    by_cases hm : n ∈ l
    · rw [List.length_erase_of_mem hm] at ih
      omega
    · rw [List.erase_of_not_mem hm] at ih
      omega
theorem order_facts {m : Int} {F : List Core} (h : rightF m F = true) {x y : Nat} (hx : x < F.length) (hy : y < F.length) : OrderFacts m F x y (ordZ m F x) := by
  have T := tree_of_right h
  have hN : (ordF F x).Nodup := T.ord_nodup _ _ hx (by omega)
  have hlt : ∀ z ∈ ordF F x, z < F.length := T.ord_lt _ _ hx
  have inj : ∀ {a b : Nat}, Int.ofNat a = Int.ofNat b → a = b := fun e => Int.ofNat.inj e
  have hNZ : ((ordF F x).map Int.ofNat).Nodup := List.Pairwise.map Int.ofNat (fun a b hab e => hab (Int.ofNat.inj e)) hN
  have get : ∀ {i : Nat} {z : Int}, ((ordF F x).map Int.ofNat)[i]? = some z → ∃ n : Nat, z = (n : Int) ∧ (ordF F x)[i]? = some n := fun {i z} e => by
    rw [List.getElem?_map] at e
    cases hg : (ordF F x)[i]? with
    | none => rw [hg] at e; cases e
    | some n => rw [hg] at e; exact ⟨n, (Option.some.inj e).symm, rfl⟩
  rw [ordZ_eq h hx]
  refine ⟨?_, ?_, fun i z e => ?_, fun n hn => ?_, fun i n c hi e hc => ?_, fun hr hne => ?_, fun hr => ?_, fun e => ?_, fun h1 hne => ?_⟩
  · obtain ⟨r, hr⟩ := ordN_head (kids := kidsF F) (F.length + 1) x
    unfold ordF
    rw [hr]
    rfl
  · rw [List.length_map]
    exact nodup_sub _ _ hN hlt
  · obtain ⟨n, rfl, hg⟩ := get e
    exact ⟨n, rfl, hlt n (List.mem_of_getElem? hg)⟩
  · rw [hasZ_nodup hNZ]
    have e1 : ((n : Int) ∈ (ordF F x).map Int.ofNat) ↔ n ∈ ordF F x := by
      constructor
      · intro hm
        obtain ⟨k, hk, e⟩ := List.mem_map.1 hm
        rwa [Int.ofNat.inj e] at hk
      · intro hm
        exact List.mem_map.2 ⟨n, hm, rfl⟩
    have e2 : holdsZ m F x n = decide (n ∈ ordF F x) := by
      unfold holdsZ
      rw [thereF_of h hx, thereF_of h hn]
      rfl
    rw [e2]
    by_cases hm : n ∈ ordF F x
    · rw [if_pos (e1.2 hm), decide_eq_true hm, if_pos rfl]
    · rw [if_neg (fun g => hm (e1.1 g)), decide_eq_false hm, if_neg (by decide)]
  · obtain ⟨n', e', hg⟩ := get e
    obtain rfl : n = n' := Int.ofNat.inj e'
    obtain ⟨j, p, hj, hp, hjp, hk⟩ := T.ord_between _ x hx (show F.length + 1 ≤ rankF F x + (F.length + 1) by omega) i n hi hg
    have hn : n < F.length := hlt n (List.mem_of_getElem? hg)
    have hpl : p < F.length := hlt p (List.mem_of_getElem? hjp)
    have hpar : c.parent = (p : Int) := by
      have hp' := hp
      unfold parF at hp'
      rw [hc] at hp'
      dsimp only at hp'
      by_cases he : c.parent = -1
      · rw [if_pos he] at hp'; cases hp'
      · obtain ⟨p2, pc, k2, hp2, _⟩ := (holds_facts (y := n) (z := n) h hn hn hn hc).child he
        rw [if_neg he, hp2] at hp'
        injection hp' with hp'
        have e3 : p2 = p := by simpa using hp'
        rw [hp2, e3]
    refine ⟨j, p, hj, hpl, hpar, findZ_at hNZ (by rw [List.getElem?_map]; rw [show (ordF F x)[j]? = some p from hjp]; rfl), fun k q hjk hki hq => ?_⟩
    obtain ⟨q', e', hgq⟩ := get hq
    obtain rfl : q = q' := Int.ofNat.inj e'
    have hql : q < F.length := hlt q (List.mem_of_getElem? hgq)
    obtain ⟨g1, g2⟩ := hk k q hjk hki hgq
    refine ⟨(holdsZ_iff h hpl hql).2 g1, ?_⟩
    cases hh : holdsZ m F n q with
    | false => rfl
    | true => exact absurd ((holdsZ_iff h hn hql).1 hh) g2
  · rw [rootZ_eq h hx, rootZ_eq h hy] at hr
    have hr : rootF F x = rootF F y := Int.ofNat.inj hr
    rw [aheadZ_eq h hx hy, aheadZ_eq h hy hx]
    have := T.ahead_one (f := F.length + 1) (g := F.length + 1) hx hy (Nat.le_refl _) hr hne
    unfold aheadF
    rw [← hr, decide_eq_true rfl, Bool.true_and, Bool.true_and]
    have key : ∀ a b : Nat, a ≠ b → decide (a < b) = !decide (b < a) := fun a b hab => by
      by_cases h1 : a < b
      · rw [decide_eq_true h1, decide_eq_false (by omega)]; rfl
      · rw [decide_eq_false h1, decide_eq_true (by omega)]; rfl
    exact key _ _ this
  · rw [rootZ_eq h hx, rootZ_eq h hy] at hr
    have hr : rootF F x ≠ rootF F y := fun e => hr (by rw [e])
    rw [aheadZ_eq h hx hy, aheadZ_eq h hy hx]
    unfold aheadF
    rw [decide_eq_false hr, decide_eq_false (show ¬ rootF F y = rootF F x from fun e => hr e.symm)]
    exact ⟨rfl, rfl⟩
  · subst e
    rw [aheadZ_eq h hx hx]
    unfold aheadF
    rw [decide_eq_false (Nat.lt_irrefl _), Bool.and_false]
    exact ⟨rfl, rfl⟩
  · have g := (holdsZ_iff h hx hy).1 h1
    rw [aheadZ_eq h hx hy]
    unfold aheadF rootF ordF
    rw [decide_eq_true (T.root_held hy (Nat.le_refl _) g), decide_eq_true (T.held_ahead hy (Nat.le_refl _) (Nat.le_refl _) g hne)]
    rfl
end Go.Proofs.YtkomeijlljcdgaaGreat
/- append of any slice onto one of the call's own, at a step of a region that draws its order. No program. -/
namespace Go.Proofs.YtkomeijlljcdgaaGreat
open Go.RowKit
theorem step_append_rows {P : Program} {α : Type} {enc : α → List Value} {w : World} {ops : Array Oper} {o : Oper} {a : Act} {K : Act → World → Prop} {Q : Exit → Act → World → Prop} {E : Prop} (hgd : o.guard = none) (s x : Operand) (t : TypeId)
    (ho : o.op = .call { callee := .builtin .append, args := #[s, x], argTypes := #[t, t] })
    (e : TypeId) (i : TypeInfo) (z : Value) (size bytes : Nat) (ht : P.underlying t = some (.slice e)) (hi : P.info? e = some i) (hz : i.zero = some z)
    (hsize : i.size = size) (hby : i.bytes = bytes) (hzs : z.cells.size = size) (hsz : 0 < size) (base : Nat)
    (v : Value) (n : Nat) (L M : List α) (hs : a.eval s = v) (hown : w.ownsRow base e size v n (L.flatMap enc)) (ad : Option Addr) (m c : Nat) (hx : a.eval x = .slice ad m c) (hsrc : SRow enc size w ad m c M) (h1 : ∀ x ∈ M, ∀ u ∈ enc x, u.oneCell' = true)
    (h63 : n + m ≤ maxLen) (hbytes : (n + m) * bytes ≤ 140737488355328) (hbase : base ≤ w.heap.size) (hnil : ad = none → c = 0)
    (h : ∀ v' w', w'.ownsRow base e size v' (n + m) ((L ++ M).flatMap enc) → w.grownBy w' v.ownBlock → (v'.ownBlock = v.ownBlock ∨ v'.ownBlock = some w.heap.size) → K (a.put o.dst v') w') :
    if Region.wanted o (yielded ops a.tmps) = true then Oper.wp P o a w K Q else E := by
  have hw : Region.wanted o (yielded ops a.tmps) = true := by simp [Region.wanted, hgd]
  rw [if_pos hw]
  obtain ⟨v', w', hr, h2, h3, h4⟩ := run_append_rows (P := P) w t o.type e i z size bytes ht hi hz hsize hby hzs hsz base v n L M hown ad m c hsrc h1 h63 hbytes hbase hnil
  unfold Oper.wp execOp
  simp only [ho, resolve, invoke, builtin, Sem.run_bind, Sem.run_pure, Result.andThen_ok, List.map_toArray, List.map_cons, List.map_nil, hs, hx, hr]
  exact h v' w' h2 h3 h4
end Go.Proofs.YtkomeijlljcdgaaGreat
/- A step of a drawn region that is a call: its guard decided. No program. -/
namespace Go.Proofs.YtkomeijlljcdgaaGreat
theorem step_wpS {P : Program} {ops : Array Oper} {o : Oper} {a : Act} {w : World} {K : Act → World → Prop} {Q : Exit → Act → World → Prop} {E : Prop} (hg : o.guard = none) (h : Oper.wp P o a w K Q) : if Region.wanted o (yielded ops a.tmps) = true then Oper.wp P o a w K Q else E := by
  have hw : Region.wanted o (yielded ops a.tmps) = true := by simp [Region.wanted, hg]
  rw [if_pos hw]
  exact h
end Go.Proofs.YtkomeijlljcdgaaGreat
/- An argument that is a slice of structs, opened: for any struct that can be opened. -/
namespace Go.Proofs.YtkomeijlljcdgaaGreat
open Go.RowKit Go.Deep Go.ChangeShapes Go.WideShapes
theorem open_rows {α : Type} (enc : α → List Value) (size : Nat) (ok : α → Prop) {ts te : TypeId} (hts : Tryz.prog.underlying ts = some (.slice te)) (ce : Tryz.prog.cellsOf te = size) (hpos : 0 < size)
    {H : Type} {en : TypeId × Value → H} {W : World} {a : Option Addr} {len cap : Nat} {d : DataW H} {p : List MemPlace}
    (one : ∀ (cs : List Value) (fuel : Nat) (d : DataW H) (p : List MemPlace), cs.length = size → DataW.trod en Tryz.prog W 0 (fun _ => true) true fuel te cs = some (d, p) → ∃ x, cs = enc x ∧ ok x)
    (h : DataW.Trod en Tryz.prog W 0 (fun _ => true) true ts (.slice a len cap) d p) : ∃ L, SRow enc size W a len cap L ∧ (∀ x ∈ L, ok x) ∧ (a = none → cap = 0) := by
  obtain ⟨fuel, hf⟩ := h
  rcases open_slice hts hf with ⟨hcs, _⟩ | ⟨ad, l, c, m, n, D, Pl, hcs, _, hl, hm, hmm, _, hi⟩
  · simp [Value.cells] at hcs
    obtain ⟨rfl, rfl, rfl⟩ := hcs
    exact ⟨[], SRow.nil, (fun x hx => by cases hx), fun _ => rfl⟩
  · simp [Value.cells] at hcs
    obtain ⟨rfl, rfl, rfl⟩ := hcs
    have hml : len ≤ m := by rw [hmm]; simpa using hl
    have each : ∀ i, i < len → ∃ x : α, ((enc x).length = size ∧ ok x) ∧ ∀ j v, (enc x)[j]? = some v → W.cell? (ad.add (i * size + j)) = some v := by
      intro i hil
      obtain ⟨cs', h1, h2⟩ := hi i (by omega)
      rw [ce] at h1
      obtain ⟨_, hlen, hcell⟩ := World.cells?_some h1
      obtain ⟨x, hx, hok⟩ := one _ _ _ _ hlen h2
      refine ⟨x, ⟨by rw [← hx, hlen], hok⟩, fun j v hv => ?_⟩
      have hj : j < size := by
        have := (List.getElem?_eq_some_iff.1 hv).1
        rwa [← hx, hlen] at this
      have e0 := hcell j hj
      rw [add_add, hx, hv] at e0
      exact e0
    rcases Nat.eq_zero_or_pos len with h0 | h0
    · subst h0
      exact ⟨[], ⟨rfl, hl, hm, (fun x hx => by cases hx), .inl rfl⟩, (fun x hx => by cases hx), fun e => by cases e⟩
    obtain ⟨q, hq⟩ : ∃ q : Nat → α, ∀ i, i < len → ((enc (q i)).length = size ∧ ok (q i)) ∧ ∀ j v, (enc (q i))[j]? = some v → W.cell? (ad.add (i * size + j)) = some v := by
      refine ⟨fun i => if h : i < len then (each i h).choose else (each 0 h0).choose, fun i hil => ?_⟩
      simp only [dif_pos hil]
      exact (each i hil).choose_spec
    refine ⟨(List.range len).map q, ⟨by simp, hl, hm, fun x hx => ?_, ?_⟩, ?_, fun h => by cases h⟩
    · obtain ⟨i, hi1, rfl⟩ := List.mem_map.1 hx
      exact (hq i (List.mem_range.1 hi1)).1.1
    · obtain ⟨b, off, spot⟩ := ad
      have hlen0 := (hq 0 h0).1.1
      have hc := (hq 0 h0).2 0 _ (List.getElem?_eq_getElem (by omega))
      have hspot : spot = none := by simpa [Addr.add] using World.cell?_spot hc
      subst hspot
      refine .inr ⟨b, off, rfl, ?_, ?_⟩
      · have := block_lt hc
        rwa [add_plain] at this
      · intro i x j v hx hv
        obtain ⟨hil, hgx⟩ := List.getElem?_eq_some_iff.1 hx
        have hil' : i < len := by simpa using hil
        simp at hgx
        have h1 := (hq i hil').2 j v (by rw [hgx]; exact hv)
        rw [add_plain] at h1
        simpa [Nat.add_assoc] using h1
    · intro x hx
      obtain ⟨i, hi1, rfl⟩ := List.mem_map.1 hx
      exact (hq i (List.mem_range.1 hi1)).1.2
end Go.Proofs.YtkomeijlljcdgaaGreat
