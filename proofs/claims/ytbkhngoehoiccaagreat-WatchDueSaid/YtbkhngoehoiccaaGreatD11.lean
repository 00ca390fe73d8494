/- Texts joined in build order: OwnCells ForestMakesMath ForestEnds AttrFind AttrClone AttrDelete AttrSet2 ForestOrderMath DeskBox DeskFns DeskPred DeskClos OpenRows. -/
import Derived.Below
import Derived.WalkSmall
import Derived.Laws.Rows
import Derived.Deep.OwnRows
import Derived.Test.YtbkhngoehoiccaaGreatD06
import Derived.Test.YtbkhngoehoiccaaGreatD07
import Derived.Lib.SliceRun
import Derived.Deep.RegionLaw
import Derived.Laws.IdiomCopy
import Derived.Deep.MidRow
import Derived.Test.YtbkhngoehoiccaaGreatD03
import Derived.Deep.CutBlock
import Derived.Shelf.Abstract
import Derived.OpenShut
namespace Go.Proofs.YtbkhngoehoiccaaGreat
open Go.RowKit
structure ORow {α : Type} (enc : α → Value) (w : World) (g : Nat) (L : List α) : Prop where
  lt : g < w.heap.size
  cell : ∀ i x, L[i]? = some x → w.cell? ⟨g, i, none⟩ = some (enc x)
  free : ∀ i, w.frozen? ⟨g, i, none⟩ = false
section
variable {α : Type} {enc : α → Value} {w w' : World} {g : Nat} {L : List α}
theorem ORow.keep (h : ORow enc w g L) (hb : Below w.heap.size w w') : ORow enc w' g L :=
  ⟨Nat.lt_of_lt_of_le h.lt hb.size, fun i x hx => (hb.cell (p := ⟨g, i, none⟩) h.lt).trans (h.cell i x hx), fun i => (hb.frozen (p := ⟨g, i, none⟩) h.lt).trans (h.free i)⟩
theorem ORow.drewN (h : ORow enc w g L) (n : Nat) : ORow enc (w.drewN n) g L := ⟨h.lt, h.cell, h.free⟩
theorem ORow.set (h : ORow enc w g L) {k : Nat} (hk : k < L.length) (x : α) : ORow enc (w.setCell ⟨g, k, none⟩ (enc x)) g (L.set k x) := by
  refine ⟨by simpa [World.setCell] using h.lt, fun i y hy => ?_, fun i => by rw [World.frozen?_setCell]; exact h.free i⟩
  by_cases e : k = i
  · subst e
    rw [List.getElem?_set_self hk] at hy
    injection hy with hy
    subst hy
    exact World.cell?_setCell_same _ _ _ (h.cell k _ (List.getElem?_eq_getElem hk))
  · rw [List.getElem?_set_ne e] at hy
    rw [World.cell?_setCell_other _ _ _ _ (fun e' => by injection e' with _ e'; exact e e')]
    exact h.cell i y hy
theorem ORow.other (h : ORow enc w g L) {p : Addr} (hp : p.block ≠ g) (u : Value) : ORow enc (w.setCell p u) g L :=
  ⟨by simpa [World.setCell] using h.lt, fun i x hx => (World.cell?_setCell_other _ _ _ _ (fun e => hp (by rw [e]))).trans (h.cell i x hx), fun i => by rw [World.frozen?_setCell]; exact h.free i⟩
theorem ORow.made (w : World) (e : TypeId) (x : α) (n : Nat) : ORow enc (w.alloc (.cells (madeCells #[enc x] n) e)) w.heap.size (List.replicate n x) := by
  refine ⟨by simp, fun i y hy => ?_, fun i => (World.rowIs_made w (enc x) n e).frozen i⟩
  obtain ⟨hl, hg⟩ := List.getElem?_eq_some_iff.1 hy
  rw [List.getElem_replicate] at hg
  subst hg
  rw [List.length_replicate] at hl
  exact (World.rowIs_made w (enc x) n e).cell hl
end
end Go.Proofs.YtbkhngoehoiccaaGreat
namespace Go.Proofs.YtbkhngoehoiccaaGreat
open Go.RowKit
theorem endsZ_none (nxt : Int → Int) (s : Nat) : endsZ nxt s (-1) = true := by
  cases s with
  | zero => rfl
  | succ s => unfold endsZ; rfl
theorem endsZ_more {nxt : Int → Int} : ∀ (s : Nat) (i : Int), endsZ nxt s i = true → endsZ nxt (s + 1) i = true
  | 0, i, h => by
    have e : i = -1 := by unfold endsZ at h; exact beq_iff_eq.1 h
    rw [e]
    exact endsZ_none _ _
  | s + 1, i, h => by
    by_cases e : i = -1
    · rw [e]
      exact endsZ_none _ _
    · rw [endsZ_step e] at h ⊢
      exact endsZ_more s _ h
end Go.Proofs.YtbkhngoehoiccaaGreat
namespace Go.Proofs.YtbkhngoehoiccaaGreat
theorem nodup_lt : ∀ (n : Nat) (l : List Nat), l.Nodup → (∀ x ∈ l, x < n) → l.length ≤ n
  | 0, l, _, h => by
    cases l with
    | nil => exact Nat.le_refl _
    | cons a r => exact absurd (h a (by simp)) (by omega)
  | n + 1, l, hn, h => by
    have h1 := nodup_lt n (l.filter (fun x => decide (x ≠ n))) (hn.filter _) (fun x hx => by
      have := List.mem_filter.1 hx
      have h2 := h x this.1
      have h3 := of_decide_eq_true this.2
      omega)
    have h2 : l.countP (fun x => decide (x ≠ n)) + l.countP (fun x => ! decide (x ≠ n)) = l.length := by
      have := List.length_eq_countP_add_countP (fun x => decide (x ≠ n)) (l := l)
      rw [this]
      congr 1
      refine List.countP_congr fun x _ => ?_
      simp
    have h3 : l.countP (fun x => ! decide (x ≠ n)) ≤ 1 := by
      have h4 : l.countP (fun x => ! decide (x ≠ n)) = l.count n := by
        unfold List.count
        refine List.countP_congr fun x _ => ?_
        simp
      rw [h4]
      exact List.nodup_iff_count.1 hn n
    rw [← List.countP_eq_length_filter] at h1
    omega
section
variable {nxt : Int → Int}
def exZ (nxt : Int → Int) (r : Nat) (i : Int) : Prop := endsZ nxt r i = true ∧ ∀ s, s < r → endsZ nxt s i = false
theorem exZ_of : ∀ (m : Nat) (i : Int), endsZ nxt m i = true → ∃ r, r ≤ m ∧ exZ nxt r i
  | m, i, h => by
    by_cases hs : ∃ s, s < m ∧ endsZ nxt s i = true
    · obtain ⟨s, hs, he⟩ := hs
      obtain ⟨r, hr, hx⟩ := exZ_of s i he
      exact ⟨r, by omega, hx⟩
    · exact ⟨m, Nat.le_refl _, h, fun s hl => by
        cases hq : endsZ nxt s i with
        | false => rfl
        | true => exact absurd ⟨s, hl, hq⟩ hs⟩
termination_by m => m
theorem exZ_one {r s : Nat} {i : Int} (h1 : exZ nxt r i) (h2 : exZ nxt s i) : r = s := by
  rcases Nat.lt_trichotomy r s with h | h | h
  · have := h2.2 r h
    rw [h1.1] at this
    cases this
  · exact h
  · have := h1.2 s h
    rw [h2.1] at this
    cases this
def chainZ (nxt : Int → Int) : Nat → Int → List Int
  | 0, _ => []
  | s + 1, i => i :: chainZ nxt s (nxt i)
theorem exZ_next {r : Nat} {i : Int} (h : exZ nxt (r + 1) i) : i ≠ -1 ∧ exZ nxt r (nxt i) := by
  have h0 := h.2 0 (by omega)
  have hi : i ≠ -1 := fun e => by
    rw [e] at h0
    cases h0
  refine ⟨hi, by rw [← endsZ_step hi]; exact h.1, fun s hs => ?_⟩
  rw [← endsZ_step hi]
  exact h.2 (s + 1) (by omega)
theorem chain_facts {n : Nat} (hr : ∀ i : Int, 0 ≤ i → i < n → nxt i = -1 ∨ (0 ≤ nxt i ∧ nxt i < n)) :
    ∀ (r : Nat) (i : Int), exZ nxt r i → (i = -1 ∨ (0 ≤ i ∧ i < (n : Int))) → (chainZ nxt r i).length = r ∧ (chainZ nxt r i).Nodup ∧ ∀ y ∈ chainZ nxt r i, (0 ≤ y ∧ y < (n : Int)) ∧ ∃ s, 0 < s ∧ s ≤ r ∧ exZ nxt s y
  | 0, i, _, _ => ⟨rfl, List.nodup_nil, fun y hy => by cases hy⟩
  | r + 1, i, h, hi => by
    obtain ⟨hne, hx⟩ := exZ_next h
    have hi2 : 0 ≤ i ∧ i < (n : Int) := by
      rcases hi with h | h
      · exact absurd h hne
      · exact h
    obtain ⟨h1, h2, h3⟩ := chain_facts hr r (nxt i) hx (hr i hi2.1 hi2.2)
    refine ⟨by unfold chainZ; rw [List.length_cons, h1], ?_, fun y hy => ?_⟩
    · unfold chainZ
      rw [List.nodup_cons]
      refine ⟨fun hm => ?_, h2⟩
      obtain ⟨_, s, _, hs2, hs3⟩ := h3 i hm
      have := exZ_one h hs3
      omega
    · unfold chainZ at hy
      rcases List.mem_cons.1 hy with rfl | hy
      · exact ⟨hi2, r + 1, by omega, Nat.le_refl _, h⟩
      · obtain ⟨h4, s, h5, h6, h7⟩ := h3 y hy
        exact ⟨h4, s, h5, by omega, h7⟩
theorem endsZ_le {r n : Nat} (h : r ≤ n) {i : Int} (he : endsZ nxt r i = true) : endsZ nxt n i = true := by
  obtain ⟨d, rfl⟩ : ∃ d, n = r + d := ⟨n - r, by omega⟩
  clear h
  induction d with
  | zero => exact he
  | succ d ih => exact endsZ_more _ _ ih
theorem ends_small {n : Nat} (hr : ∀ i : Int, 0 ≤ i → i < n → nxt i = -1 ∨ (0 ≤ nxt i ∧ nxt i < n)) {m : Nat} {i : Int} (hi : i = -1 ∨ (0 ≤ i ∧ i < (n : Int))) (h : endsZ nxt m i = true) : endsZ nxt n i = true := by
  obtain ⟨r, _, hx⟩ := exZ_of m i h
  obtain ⟨h1, h2, h3⟩ := chain_facts hr r i hx hi
  have h4 : ((chainZ nxt r i).map Int.toNat).Nodup := by
    have key : ∀ l : List Int, l.Nodup → (∀ z ∈ l, 0 ≤ z) → (l.map Int.toNat).Nodup := by
      intro l
      induction l with
      | nil => intro _ _; simp
      | cons a r ih =>
        intro hl hp
        rw [List.nodup_cons] at hl
        rw [List.map_cons, List.nodup_cons]
        refine ⟨fun hm => ?_, ih hl.2 (fun z hz => hp z (by simp [hz]))⟩
        obtain ⟨z, hz, e⟩ := List.mem_map.1 hm
        have h1 := hp a (by simp)
        have h2 := hp z (by simp [hz])
        have : z = a := by omega
        exact hl.1 (this ▸ hz)
    exact key _ h2 (fun z hz => (h3 z hz).1.1)
  have h5 := nodup_lt n _ h4 (fun y hy => by
    obtain ⟨z, hz, rfl⟩ := List.mem_map.1 hy
    have := (h3 z hz).1
    omega)
  rw [List.length_map, h1] at h5
  exact endsZ_le h5 hx.1
end
end Go.Proofs.YtbkhngoehoiccaaGreat
namespace Go.Proofs.YtbkhngoehoiccaaGreat
open Go.RowKit Go.Maps Go.WideMaps
end Go.Proofs.YtbkhngoehoiccaaGreat
namespace Go.Proofs.YtbkhngoehoiccaaGreat
open Go.RowKit
def OwnPost (w : World) (L : AL) (e : Ending) (w' : World) : Prop := ∃ v, e = .returned v ∧ w'.ownsRow w.heap.size 70 2 v L.length (L.flatMap encA) ∧ Below w.heap.size w w'
set_option maxHeartbeats 4000000 in
theorem clone_any (a : Option Addr) (len cap : Nat) (L : AL) (w : World) (h : AttrRow w a len cap L) (h40 : len ≤ 1000000) :
    Calls Tryz.prog 98 #[.slice a len cap] w (OwnPost w L) := by
  obtain ⟨i0, hi0, hz0, hz1, hz2⟩ := info_parts attr_info
  have HL := Lib.hid h.hlen
  have q22 : ∀ (w : World) (a : Option Addr) (n c n' c' : Nat), (binOp .eql 55 (.slice a n c) (.slice none n' c')).run Tryz.prog w = .ok (.bool a.isNone) w := fun w a n c n' c' => Lib.run_eql_slice_nil w _ _ a n c n' c' Tryz.underlying55
  rcases a with _ | ad
  · have hc : cap = 0 := h.hnil rfl
    have h0 : len = 0 := by have := h.row.hcap; omega
    have hLn : L = [] := List.eq_nil_of_length_eq_zero (by rw [h.hlen, h0])
    subst hc; subst h0; subst hLn
    clear h
    go_enter Tryz.func98, Tryz.ntmps98
    go_wp2
    go_ret
    exact ⟨_, rfl, World.ownsRow_nil _ _ _ _, Below.refl _ _⟩
  · have H := Lib.hid h
    have hE := own_empty (α := ByteArray × ByteArray) (enc := encA) (size := 2) w w.heap.size 70 (Nat.le_refl _)
    have HE := Lib.hid hE
    clear h hE
    go_enter Tryz.func98, Tryz.ntmps98
    go_wp2_with (first
      | (at_builtin
         refine wpList_append_rows rfl (.tmp 5) (.tmp 6) 55 rfl 70 i0 _ 2 32 Tryz.underlying55 hi0 hz0 hz1 hz2 rfl (by decide) w.heap.size _ 0 _ L rfl HE.out (some ad) len cap rfl (H.out.below ((Below.refl _ _).alloc (Nat.le_refl _) _)).row (fun x _ => encA_one x) (by unfold maxLen; omega) (by omega) (by simp) (fun h => by cases h) ?_
         intro v2 w2 hown2 hg2 hat2
         have HB2 := below_new (Below.refl _ _) hg2
         have HO2 := Lib.hid hown2
         clear hown2 hg2 hat2))
    go_ret
    refine ⟨_, rfl, ?_, HB2⟩
    have := HO2.out
    rw [HL.out]
    simpa using this
end Go.Proofs.YtbkhngoehoiccaaGreat
namespace Go.Proofs.YtbkhngoehoiccaaGreat
open Go.RowKit
theorem below_setCells {B g : Nat} {a : World} (hg : B ≤ g) : ∀ (vs : List Value) (o : Nat) (w : World), Below B a w → Below B a (w.setCells g o vs)
  | [], _, _, h => h
  | v :: r, o, w, h => below_setCells hg r (o + 1) (w.setCell ⟨g, o, none⟩ v) (h.setCell hg v)
end Go.Proofs.YtbkhngoehoiccaaGreat
namespace Go.Proofs.YtbkhngoehoiccaaGreat
open Go.RowKit
def SetNew (w : World) (M : AL) (z : Int) (e : Ending) (w' : World) : Prop := ∃ a len cap, e = .returned (.tuple #[.slice a len cap, .int .i64 z]) ∧ AttrRow w' a len cap M ∧ Below w.heap.size w w' ∧ ∀ b off, a = some ⟨b, off, none⟩ → w.heap.size ≤ b
theorem SetNew.post {w w' : World} {M : AL} {z : Int} {e : Ending} (h : SetNew w M z e w') : SetPost w M z e w' := by
  obtain ⟨a, len, cap, h1, h2, h3, _⟩ := h
  exact ⟨a, len, cap, h1, h2, h3⟩
theorem AttrRow.of_own_new {w : World} {base : Nat} {v : Value} {n : Nat} {M : AL} (hl : M.length = n) (h : w.ownsRow base 70 2 v n (M.flatMap encA)) (hs : ∀ x ∈ M, x.1.size ≤ maxLen ∧ x.2.size ≤ maxLen) :
    ∃ a cap, v = .slice a n cap ∧ AttrRow w a n cap M ∧ ∀ b off, a = some ⟨b, off, none⟩ → base ≤ b := by
  rcases h.2 with ⟨rfl, h0⟩ | ⟨g, cap, cur, rfl, _⟩
  · subst h0
    have hL : M = [] := List.eq_nil_of_length_eq_zero hl
    subst hL
    exact ⟨none, 0, rfl, ⟨SRow.nil, hs, fun _ => rfl⟩, fun b off h => by cases h⟩
  · obtain ⟨a, cap', he, hr, hb⟩ := SRow.of_own (fun x _ => encA_len x) hl h
    injection he with h1 h2 h3
    subst h1; subst h3
    exact ⟨_, _, rfl, ⟨hr, hs, fun h => by cases h⟩, hb⟩
theorem SetNew.mk {w w' : World} {M : AL} {z : Int} {e : Ending} {v : Value} {n : Nat} (he : e = .returned (.tuple #[v, .int .i64 z])) (hl : M.length = n) (h : w'.ownsRow w.heap.size 70 2 v n (M.flatMap encA)) (hs : ∀ x ∈ M, x.1.size ≤ maxLen ∧ x.2.size ≤ maxLen) (hb : Below w.heap.size w w') : SetNew w M z e w' := by
  obtain ⟨a, cap, rfl, h1, h2⟩ := AttrRow.of_own_new hl h hs
  exact ⟨a, n, cap, he, h1, hb, h2⟩
end Go.Proofs.YtbkhngoehoiccaaGreat
namespace Go.Proofs.YtbkhngoehoiccaaGreat
open Go.RowKit
theorem hasZ_nodup : ∀ {L : List Int} {n : Int}, L.Nodup → hasZ L n = if n ∈ L then 1 else 0
  | [], n, _ => rfl
  | z :: l, n, h => by
    have h2 := List.nodup_cons.1 h
    have ih := hasZ_nodup (n := n) h2.2
    unfold hasZ at ih ⊢
    rw [List.countP_cons, ih]
    by_cases e : z = n
    · subst e
      rw [if_neg h2.1, if_pos (by simp), if_pos (List.mem_cons_self ..)]
    · rw [if_neg (show ¬ ((z == n) = true) from fun g => e (beq_iff_eq.1 g))]
      by_cases hm : n ∈ l
      · rw [if_pos hm, if_pos (List.mem_cons_of_mem _ hm)]
      · rw [if_neg hm, if_neg (fun g => by rcases List.mem_cons.1 g with g | g; exact e g.symm; exact hm g)]
end Go.Proofs.YtbkhngoehoiccaaGreat
namespace Go.Proofs.YtbkhngoehoiccaaGreat
open Go.RowKit
structure DBox (w W : World) (g : Nat) (da : Option Addr) (dl dc : Nat) (wa : Option Addr) (wl wc : Nat) (nx : Int) (bz : Bool) (L : List DefD) (M : List WaitD) : Prop where
  d : DefRow W da dl dc L
  t : WaitRow W wa wl wc M
  low : w.heap.size ≤ g
  lt : g < W.heap.size
  c0 : W.cell? ⟨g, 0, none⟩ = some (.slice da dl dc)
  c1 : W.cell? ⟨g, 1, none⟩ = some (.slice wa wl wc)
  c2 : W.cell? ⟨g, 2, none⟩ = some (.int .i64 nx)
  c3 : W.cell? ⟨g, 3, none⟩ = some (.bool bz)
  below : Below w.heap.size w W
section
variable {w W V : World} {g : Nat} {da wa : Option Addr} {dl dc wl wc : Nat} {nx : Int} {bz : Bool} {L : List DefD} {M : List WaitD}
theorem DBox.keep (h : DBox w W g da dl dc wa wl wc nx bz L M) (hb : Below W.heap.size W V) : DBox w V g da dl dc wa wl wc nx bz L M :=
  ⟨h.d.below hb, h.t.below hb, h.low, Nat.lt_of_lt_of_le h.lt hb.size, (hb.cell (p := ⟨g, 0, none⟩) h.lt).trans h.c0, (hb.cell (p := ⟨g, 1, none⟩) h.lt).trans h.c1, (hb.cell (p := ⟨g, 2, none⟩) h.lt).trans h.c2, (hb.cell (p := ⟨g, 3, none⟩) h.lt).trans h.c3, h.below.trans (hb.mono h.below.size)⟩
theorem DBox.start (hd : DefRow w da dl dc L) (ht : WaitRow w wa wl wc M) : DBox w (w.alloc (deskB da dl dc wa wl wc nx bz)) w.heap.size da dl dc wa wl wc nx bz L M :=
  ⟨hd.below (below_desk _ _), ht.below (below_desk _ _), Nat.le_refl _, by simp, cell_of_row (w.alloc (deskB da dl dc wa wl wc nx bz)) w.heap.size 0 _ 29 (0, 0) (heap_alloc_new w _), cell_of_row (w.alloc (deskB da dl dc wa wl wc nx bz)) w.heap.size 1 _ 29 (0, 0) (heap_alloc_new w _), cell_of_row (w.alloc (deskB da dl dc wa wl wc nx bz)) w.heap.size 2 _ 29 (0, 0) (heap_alloc_new w _), cell_of_row (w.alloc (deskB da dl dc wa wl wc nx bz)) w.heap.size 3 _ 29 (0, 0) (heap_alloc_new w _), below_desk _ _⟩
end
structure XBox (W : World) (g : Nat) (n l : ByteArray) (c : Int) : Prop where
  lt : g < W.heap.size
  c0 : W.cell? ⟨g, 0, none⟩ = some (.string n)
  c1 : W.cell? ⟨g, 1, none⟩ = some (.string l)
  c2 : W.cell? ⟨g, 2, none⟩ = some (.int .i64 c)
theorem XBox.keep {W V : World} {g : Nat} {n l : ByteArray} {c : Int} (h : XBox W g n l c) (hb : Below W.heap.size W V) : XBox V g n l c :=
  ⟨Nat.lt_of_lt_of_le h.lt hb.size, (hb.cell (p := ⟨g, 0, none⟩) h.lt).trans h.c0, (hb.cell (p := ⟨g, 1, none⟩) h.lt).trans h.c1, (hb.cell (p := ⟨g, 2, none⟩) h.lt).trans h.c2⟩
theorem XBox.new (W : World) (n l : ByteArray) (c : Int) : XBox (W.alloc (.cells #[.string n, .string l, .int .i64 c] 78)) W.heap.size n l c :=
  ⟨by simp, cell_of_row _ W.heap.size 0 _ 78 (0, 0) (heap_alloc_new W _), cell_of_row _ W.heap.size 1 _ 78 (0, 0) (heap_alloc_new W _), cell_of_row _ W.heap.size 2 _ 78 (0, 0) (heap_alloc_new W _)⟩
structure TBox9 (W : World) (g : Nat) (n : ByteArray) (k : Int) : Prop where
  lt : g < W.heap.size
  c0 : W.cell? ⟨g, 0, none⟩ = some (.string n)
  c1 : W.cell? ⟨g, 1, none⟩ = some (.int .i64 k)
theorem TBox9.keep {W V : World} {g : Nat} {n : ByteArray} {k : Int} (h : TBox9 W g n k) (hb : Below W.heap.size W V) : TBox9 V g n k :=
  ⟨Nat.lt_of_lt_of_le h.lt hb.size, (hb.cell (p := ⟨g, 0, none⟩) h.lt).trans h.c0, (hb.cell (p := ⟨g, 1, none⟩) h.lt).trans h.c1⟩
theorem TBox9.new (W : World) (n : ByteArray) (k : Int) : TBox9 (W.alloc (.cells #[.string n, .int .i64 k] 84)) W.heap.size n k :=
  ⟨by simp, cell_of_row _ W.heap.size 0 _ 84 (0, 0) (heap_alloc_new W _), cell_of_row _ W.heap.size 1 _ 84 (0, 0) (heap_alloc_new W _)⟩
end Go.Proofs.YtbkhngoehoiccaaGreat
namespace Go.Proofs.YtbkhngoehoiccaaGreat
open Go.RowKit
def ifRight (D : DeskD) (z : Int) : Int := if rightK D = true then z else -1
end Go.Proofs.YtbkhngoehoiccaaGreat
namespace Go.Proofs.YtbkhngoehoiccaaGreat
open Go.RowKit
def PredD (g : Nat) (lb : Array Value) (p : DefD → Bool) (w : World) : Prop :=
  ∀ (W : World) (n o : ByteArray) (c : Int), Below w.heap.size w W → Calls Tryz.prog g (#[.agg #[.string n, .string o, .int .i64 c]] ++ lb) W fun e W' => e = .returned (.bool (p ⟨n, o, c⟩)) ∧ Below W.heap.size W W'
def PredT (g : Nat) (lb : Array Value) (p : WaitD → Bool) (w : World) : Prop :=
  ∀ (W : World) (n : ByteArray) (c : Int), Below w.heap.size w W → Calls Tryz.prog g (#[.agg #[.string n, .int .i64 c]] ++ lb) W fun e W' => e = .returned (.bool (p ⟨n, c⟩)) ∧ Below W.heap.size W W'
theorem PredD.later {g : Nat} {lb : Array Value} {p : DefD → Bool} {w W : World} (h : PredD g lb p w) (hb : Below w.heap.size w W) : PredD g lb p W :=
  fun V n o c hv => h V n o c (hb.trans (hv.mono hb.size))
theorem PredT.later {g : Nat} {lb : Array Value} {p : WaitD → Bool} {w W : World} (h : PredT g lb p w) (hb : Below w.heap.size w W) : PredT g lb p W :=
  fun V n c hv => h V n c (hb.trans (hv.mono hb.size))
set_option maxHeartbeats 4000000 in
set_option maxRecDepth 100000 in
theorem indexD_any (g : Nat) (lb : Array Value) (p : DefD → Bool) (eg : ∀ args w, (callFunc g args).run Tryz.prog w = .ok (.enter g args) w) (a : Option Addr) (len cap : Nat) (L : List DefD) (w : World) (h : DefRow w a len cap L) (hp : PredD g lb p w) :
    Calls Tryz.prog 107 #[.slice a len cap, .func (.func g) #[] lb] w fun e w' => e = .returned (.int .i64 (firstZ p L)) ∧ Below w.heap.size w w' := by
  have hl := h.len64
  have HLN := Lib.hid h.hlen
  have HH := Lib.hid h
  have HP := Lib.hid hp
  clear h hp
  go_enter Tryz.func107, Tryz.ntmps107
  go_wp2
  go_loopw [5, 8] (fun _ i wr => ∃ k : Nat, k ≤ len ∧ i = .int .i64 k ∧ Hid (k ≤ firstN p L) ∧ Hid (Below w.heap.size w wr)) (fun _ i _ => len - (intOf i).toNat)
  case atStart => exact ⟨0, Nat.zero_le _, rfl, Lib.hid (Nat.zero_le _), Lib.hid (Below.refl _ _)⟩
  case round =>
    obtain ⟨k, hk, rfl, HA, HB⟩ := hrel
    by_cases hlt : k < len
    · obtain ⟨b, off, x, rfl, hb, hx, c0, c1, c2, -⟩ := (HH.out.below HB.out).get hlt
      have HX := Lib.hid hx
      clear hx
      obtain ⟨n, o, c⟩ := x
      dsimp only at c0 c1 c2
      have hcall := HP.out wr n o c HB.out
      obtain ⟨q, hq⟩ : ∃ q, p ⟨n, o, c⟩ = q := ⟨_, rfl⟩
      rw [hq] at hcall
      cases q with
      | true =>
        have HR : Hid (firstZ p L = (k : Int)) := Lib.hid (firstZ_here HA.out HX.out hq)
        clear hq
        go_wp2_with (go_at_fn g; refine hcall.mono ?_; rintro e w' ⟨rfl, hb'⟩)
        go_ret
        exact ⟨ret_int HR.out.symm, HB.out.trans (hb'.mono HB.out.size)⟩
      | false =>
        have HR : Hid (k + 1 ≤ firstN p L) := Lib.hid (first_step HA.out HX.out hq)
        clear hq
        go_wp2_with (go_at_fn g; refine hcall.mono ?_; rintro e w' ⟨rfl, hb'⟩)
        go_roundw
        case rel => exact ⟨k + 1, by omega, by go_num, HR, Lib.hid (HB.out.trans (hb'.mono HB.out.size))⟩
        case measure => simp [intOf]; omega
    · have HR : Hid (firstZ p L = -1) := Lib.hid (firstZ_none HA.out (by rw [HLN.out]; omega))
      go_wp2
      go_ret
      exact ⟨ret_int HR.out.symm, HB.out⟩
set_option maxHeartbeats 4000000 in
set_option maxRecDepth 100000 in
theorem containsD_any (g : Nat) (lb : Array Value) (p : DefD → Bool) (eg : ∀ args w, (callFunc g args).run Tryz.prog w = .ok (.enter g args) w) (a : Option Addr) (len cap : Nat) (L : List DefD) (w : World) (h : DefRow w a len cap L) (hp : PredD g lb p w) :
    Calls Tryz.prog 88 #[.slice a len cap, .func (.func g) #[] lb] w fun e w' => e = .returned (.bool (decide (0 ≤ firstZ p L))) ∧ Below w.heap.size w w' := by
  have hcall := indexD_any g lb p eg a len cap L w h hp
  clear h hp
  obtain ⟨q, hq⟩ : ∃ q, firstZ p L = q := ⟨_, rfl⟩
  rw [hq] at hcall ⊢
  clear hq
  go_enter Tryz.func88, Tryz.ntmps88
  go_wp2_with (go_at_call 107; refine hcall.mono ?_; rintro e w' ⟨rfl, hb'⟩)
  all_goals (go_ret; exact ⟨rfl, hb'⟩)
end Go.Proofs.YtbkhngoehoiccaaGreat
namespace Go.Proofs.YtbkhngoehoiccaaGreat
open Go.RowKit
theorem stayS {w W : World} {b : Nat} {v : Value} (h : w.cell? ⟨b, 0, none⟩ = some v) (hp : b < w.heap.size) (hb : Below w.heap.size w W) : W.cell? ⟨b, 0, none⟩ = some v ∧ b < W.heap.size := ⟨(hb.cell (p := ⟨b, 0, none⟩) hp).trans h, Nat.lt_of_lt_of_le hp hb.size⟩
set_option maxHeartbeats 4000000 in
set_option maxRecDepth 100000 in
theorem pred_own (s : ByteArray) (b : Nat) (w : World) (hb : b < w.heap.size) (hc : w.cell? ⟨b, 0, none⟩ = some (.string s)) : PredD 96 #[.pointer (some ⟨b, 0, none⟩)] (isOwn s.toList) w := fun W n o c hw => by
  obtain ⟨hc2, hb2⟩ := stayS hc hb hw
  clear hc hb hw
  show Calls Tryz.prog 96 #[.agg #[.string n, .string o, .int .i64 c], .pointer (some ⟨b, 0, none⟩)] W _
  obtain ⟨q, hq⟩ : ∃ q, (n.toList == s.toList) = q := ⟨_, rfl⟩
  obtain ⟨r, hr⟩ : ∃ q, (o.toList == s.toList) = q := ⟨_, rfl⟩
  have HR : Hid (isOwn s.toList ⟨n, o, c⟩ = (r && q)) := Lib.hid (by unfold isOwn; dsimp only; rw [hq, hr])
  cases q <;> cases r
  all_goals
    go_enter Tryz.func96, Tryz.ntmps96
    go_wp2
    go_ret
    exact ⟨ret_bool HR.out.symm, below_desk _ _⟩
set_option maxHeartbeats 4000000 in
set_option maxRecDepth 100000 in
theorem pred_is (l s : ByteArray) (b b' : Nat) (w : World) (hb : b < w.heap.size) (hc : w.cell? ⟨b, 0, none⟩ = some (.string s)) (hb' : b' < w.heap.size) (hc' : w.cell? ⟨b', 0, none⟩ = some (.string l)) : PredD 97 #[.pointer (some ⟨b, 0, none⟩), .pointer (some ⟨b', 0, none⟩)] (isIs l.toList s.toList) w := fun W n o c hw => by
  obtain ⟨hc2, hb2⟩ := stayS hc hb hw
  obtain ⟨hc3, hb3⟩ := stayS hc' hb' hw
  clear hc hb hw hc' hb'
  show Calls Tryz.prog 97 #[.agg #[.string n, .string o, .int .i64 c], .pointer (some ⟨b, 0, none⟩), .pointer (some ⟨b', 0, none⟩)] W _
  obtain ⟨q, hq⟩ : ∃ q, (n.toList == s.toList) = q := ⟨_, rfl⟩
  obtain ⟨r, hr⟩ : ∃ q, (o.toList == l.toList) = q := ⟨_, rfl⟩
  have HR : Hid (isIs l.toList s.toList ⟨n, o, c⟩ = (r && q)) := Lib.hid (by unfold isIs; dsimp only; rw [hq, hr])
  cases q <;> cases r
  all_goals
    go_enter Tryz.func97, Tryz.ntmps97
    go_wp2
    go_ret
    exact ⟨ret_bool HR.out.symm, below_desk _ _⟩
def isLike (n : ByteArray) (c : Int) (x : DefD) : Bool := x.name.toList == n.toList || x.cls == c
set_option maxHeartbeats 4000000 in
set_option maxRecDepth 100000 in
theorem pred_like (n0 o0 : ByteArray) (c0 : Int) (b : Nat) (w : World) (hx : XBox w b n0 o0 c0) : PredD 89 #[.pointer (some ⟨b, 0, none⟩)] (isLike n0 c0) w := fun W n o c hw => by
  have hy := hx.keep hw
  have hb2 := hy.lt
  have hc0 := hy.c0
  have hc2 := hy.c2
  clear hx hw hy
  show Calls Tryz.prog 89 #[.agg #[.string n, .string o, .int .i64 c], .pointer (some ⟨b, 0, none⟩)] W _
  obtain ⟨q, hq⟩ : ∃ q, (n.toList == n0.toList) = q := ⟨_, rfl⟩
  obtain ⟨r, hr⟩ : ∃ q, (c == c0) = q := ⟨_, rfl⟩
  have HR : Hid (isLike n0 c0 ⟨n, o, c⟩ = (q || r)) := Lib.hid (by unfold isLike; dsimp only; rw [hq, hr])
  cases q <;> cases r
  all_goals
    go_enter Tryz.func89, Tryz.ntmps89
    go_wp2
    go_ret
    exact ⟨ret_bool HR.out.symm, below_desk _ _⟩
set_option maxHeartbeats 4000000 in
set_option maxRecDepth 100000 in
theorem pred_waits (n0 : ByteArray) (k0 : Int) (b : Nat) (w : World) (hx : TBox9 w b n0 k0) : PredD 91 #[.pointer (some ⟨b, 0, none⟩)] (isName n0.toList) w := fun W n o c hw => by
  have hy := hx.keep hw
  have hb2 := hy.lt
  have hc0 := hy.c0
  clear hx hw hy
  show Calls Tryz.prog 91 #[.agg #[.string n, .string o, .int .i64 c], .pointer (some ⟨b, 0, none⟩)] W _
  obtain ⟨q, hq⟩ : ∃ q, (n.toList == n0.toList) = q := ⟨_, rfl⟩
  have HR : Hid (isName n0.toList ⟨n, o, c⟩ = q) := Lib.hid hq
  go_enter Tryz.func91, Tryz.ntmps91
  go_wp2
  go_ret
  exact ⟨ret_bool HR.out.symm, below_desk _ _⟩
end Go.Proofs.YtbkhngoehoiccaaGreat
namespace Go.Proofs.YtbkhngoehoiccaaGreat
open Go.RowKit Go.Deep Go.ChangeShapes Go.WideShapes
theorem open_rows {α : Type} (enc : α → List Value) (size : Nat) (ok : α → Prop) {ts te : TypeId} (hts : Tryz.prog.underlying ts = some (.slice te)) (ce : Tryz.prog.cellsOf te = size) (hpos : 0 < size)
    {H : Type} {en : TypeId × Value → H} {W : World} {a : Option Addr} {len cap : Nat} {d : DataW H} {p : List MemPlace}
    (one : ∀ (cs : List Value) (fuel : Nat) (d : DataW H) (p : List MemPlace), cs.length = size → DataW.trod en Tryz.prog W 0 (fun _ => true) true fuel te cs = some (d, p) → ∃ x, cs = enc x ∧ ok x)
    (h : DataW.Trod en Tryz.prog W 0 (fun _ => true) true ts (.slice a len cap) d p) : ∃ L, SRow enc size W a len cap L ∧ (∀ x ∈ L, ok x) ∧ (a = none → cap = 0) := by
  obtain ⟨fuel, hf⟩ := h
  rcases open_slice hts hf with ⟨hcs, _⟩ | ⟨ad, l, c, m, n, D, Pl, hcs, _, hl, hm, hmm, _, hi⟩
  · simp [Value.cells] at hcs
    obtain ⟨rfl, rfl, rfl⟩ := hcs
    exact ⟨[], SRow.nil, (fun x hx => by cases hx), fun _ => rfl⟩
  · simp [Value.cells] at hcs
    obtain ⟨rfl, rfl, rfl⟩ := hcs
    have hml : len ≤ m := by rw [hmm]; simpa using hl
    have each : ∀ i, i < len → ∃ x : α, ((enc x).length = size ∧ ok x) ∧ ∀ j v, (enc x)[j]? = some v → W.cell? (ad.add (i * size + j)) = some v := by
      intro i hil
      obtain ⟨cs', h1, h2⟩ := hi i (by omega)
      rw [ce] at h1
      obtain ⟨_, hlen, hcell⟩ := World.cells?_some h1
      obtain ⟨x, hx, hok⟩ := one _ _ _ _ hlen h2
      refine ⟨x, ⟨by rw [← hx, hlen], hok⟩, fun j v hv => ?_⟩
      have hj : j < size := by
        have := (List.getElem?_eq_some_iff.1 hv).1
        rwa [← hx, hlen] at this
      have e0 := hcell j hj
      rw [add_add, hx, hv] at e0
      exact e0
    rcases Nat.eq_zero_or_pos len with h0 | h0
    · subst h0
      exact ⟨[], ⟨rfl, hl, hm, (fun x hx => by cases hx), .inl rfl⟩, (fun x hx => by cases hx), fun e => by cases e⟩
    obtain ⟨q, hq⟩ : ∃ q : Nat → α, ∀ i, i < len → ((enc (q i)).length = size ∧ ok (q i)) ∧ ∀ j v, (enc (q i))[j]? = some v → W.cell? (ad.add (i * size + j)) = some v := by
      refine ⟨fun i => if h : i < len then (each i h).choose else (each 0 h0).choose, fun i hil => ?_⟩
      simp only [dif_pos hil]
      exact (each i hil).choose_spec
    refine ⟨(List.range len).map q, ⟨by simp, hl, hm, fun x hx => ?_, ?_⟩, ?_, fun h => by cases h⟩
    · obtain ⟨i, hi1, rfl⟩ := List.mem_map.1 hx
      exact (hq i (List.mem_range.1 hi1)).1.1
    · obtain ⟨b, off, spot⟩ := ad
      have hlen0 := (hq 0 h0).1.1
      have hc := (hq 0 h0).2 0 _ (List.getElem?_eq_getElem (by omega))
      have hspot : spot = none := by simpa [Addr.add] using World.cell?_spot hc
      subst hspot
      refine .inr ⟨b, off, rfl, ?_, ?_⟩
      · have := block_lt hc
        rwa [add_plain] at this
      · intro i x j v hx hv
        obtain ⟨hil, hgx⟩ := List.getElem?_eq_some_iff.1 hx
        have hil' : i < len := by simpa using hil
        simp at hgx
        have h1 := (hq i hil').2 j v (by rw [hgx]; exact hv)
        rw [add_plain] at h1
        simpa [Nat.add_assoc] using h1
    · intro x hx
      obtain ⟨i, hi1, rfl⟩ := List.mem_map.1 hx
      exact (hq i (List.mem_range.1 hi1)).1.2
end Go.Proofs.YtbkhngoehoiccaaGreat
