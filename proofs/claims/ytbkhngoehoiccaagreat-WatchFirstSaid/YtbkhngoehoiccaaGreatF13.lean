/- Texts joined in build order: ForestEnds AttrClone AttrDelete AttrSet2 ForestOrderMath OwnRows Ref9Short OpenRows. -/
import Derived.Test.YtbkhngoehoiccaaGreatF11
import Derived.Lib.SliceRun
import Derived.Deep.RegionLaw
import Derived.Laws.IdiomCopy
import Derived.Deep.MidRow
import Derived.Test.YtbkhngoehoiccaaGreatF08
import Derived.Test.YtbkhngoehoiccaaGreatF03
import Derived.Deep.SlicePairs
import Derived.OpenShut
namespace Go.Proofs.YtbkhngoehoiccaaGreat
theorem nodup_lt : ∀ (n : Nat) (l : List Nat), l.Nodup → (∀ x ∈ l, x < n) → l.length ≤ n
  | 0, l, _, h => by
    cases l with
    | nil => exact Nat.le_refl _
    | cons a r => exact absurd (h a (by simp)) (by omega)
  | n + 1, l, hn, h => by
    have h1 := nodup_lt n (l.filter (fun x => decide (x ≠ n))) (hn.filter _) (fun x hx => by
      have := List.mem_filter.1 hx
      have h2 := h x this.1
      have h3 := of_decide_eq_true this.2
      omega)
    have h2 : l.countP (fun x => decide (x ≠ n)) + l.countP (fun x => ! decide (x ≠ n)) = l.length := by
      have := List.length_eq_countP_add_countP (fun x => decide (x ≠ n)) (l := l)
      rw [this]
      congr 1
      refine List.countP_congr fun x _ => ?_
      simp
    have h3 : l.countP (fun x => ! decide (x ≠ n)) ≤ 1 := by
      have h4 : l.countP (fun x => ! decide (x ≠ n)) = l.count n := by
        unfold List.count
        refine List.countP_congr fun x _ => ?_
        simp
      rw [h4]
      exact List.nodup_iff_count.1 hn n
    rw [← List.countP_eq_length_filter] at h1
    omega
section
variable {nxt : Int → Int}
def exZ (nxt : Int → Int) (r : Nat) (i : Int) : Prop := endsZ nxt r i = true ∧ ∀ s, s < r → endsZ nxt s i = false
theorem exZ_of : ∀ (m : Nat) (i : Int), endsZ nxt m i = true → ∃ r, r ≤ m ∧ exZ nxt r i
  | m, i, h => by
    by_cases hs : ∃ s, s < m ∧ endsZ nxt s i = true
    · obtain ⟨s, hs, he⟩ := hs
      obtain ⟨r, hr, hx⟩ := exZ_of s i he
      exact ⟨r, by omega, hx⟩
    · exact ⟨m, Nat.le_refl _, h, fun s hl => by
        cases hq : endsZ nxt s i with
        | false => rfl
        | true => exact absurd ⟨s, hl, hq⟩ hs⟩
termination_by m => m
theorem exZ_one {r s : Nat} {i : Int} (h1 : exZ nxt r i) (h2 : exZ nxt s i) : r = s := by
  rcases Nat.lt_trichotomy r s with h | h | h
  · have := h2.2 r h
    rw [h1.1] at this
    cases this
  · exact h
  · have := h1.2 s h
    rw [h2.1] at this
    cases this
def chainZ (nxt : Int → Int) : Nat → Int → List Int
  | 0, _ => []
  | s + 1, i => i :: chainZ nxt s (nxt i)
theorem exZ_next {r : Nat} {i : Int} (h : exZ nxt (r + 1) i) : i ≠ -1 ∧ exZ nxt r (nxt i) := by
  have h0 := h.2 0 (by omega)
  have hi : i ≠ -1 := fun e => by
    rw [e] at h0
    cases h0
  refine ⟨hi, by rw [← endsZ_step hi]; exact h.1, fun s hs => ?_⟩
  rw [← endsZ_step hi]
  exact h.2 (s + 1) (by omega)
theorem chain_facts {n : Nat} (hr : ∀ i : Int, 0 ≤ i → i < n → nxt i = -1 ∨ (0 ≤ nxt i ∧ nxt i < n)) :
    ∀ (r : Nat) (i : Int), exZ nxt r i → (i = -1 ∨ (0 ≤ i ∧ i < (n : Int))) → (chainZ nxt r i).length = r ∧ (chainZ nxt r i).Nodup ∧ ∀ y ∈ chainZ nxt r i, (0 ≤ y ∧ y < (n : Int)) ∧ ∃ s, 0 < s ∧ s ≤ r ∧ exZ nxt s y
  | 0, i, _, _ => ⟨rfl, List.nodup_nil, fun y hy => by cases hy⟩
  | r + 1, i, h, hi => by
    obtain ⟨hne, hx⟩ := exZ_next h
    have hi2 : 0 ≤ i ∧ i < (n : Int) := by
      rcases hi with h | h
      · exact absurd h hne
      · exact h
    obtain ⟨h1, h2, h3⟩ := chain_facts hr r (nxt i) hx (hr i hi2.1 hi2.2)
    refine ⟨by unfold chainZ; rw [List.length_cons, h1], ?_, fun y hy => ?_⟩
    · unfold chainZ
      rw [List.nodup_cons]
      refine ⟨fun hm => ?_, h2⟩
      obtain ⟨_, s, _, hs2, hs3⟩ := h3 i hm
      have := exZ_one h hs3
      omega
    · unfold chainZ at hy
      rcases List.mem_cons.1 hy with rfl | hy
      · exact ⟨hi2, r + 1, by omega, Nat.le_refl _, h⟩
      · obtain ⟨h4, s, h5, h6, h7⟩ := h3 y hy
        exact ⟨h4, s, h5, by omega, h7⟩
theorem endsZ_le {r n : Nat} (h : r ≤ n) {i : Int} (he : endsZ nxt r i = true) : endsZ nxt n i = true := by
  obtain ⟨d, rfl⟩ : ∃ d, n = r + d := ⟨n - r, by omega⟩
  clear h
  induction d with
  | zero => exact he
  | succ d ih => exact endsZ_more _ _ ih
theorem ends_small {n : Nat} (hr : ∀ i : Int, 0 ≤ i → i < n → nxt i = -1 ∨ (0 ≤ nxt i ∧ nxt i < n)) {m : Nat} {i : Int} (hi : i = -1 ∨ (0 ≤ i ∧ i < (n : Int))) (h : endsZ nxt m i = true) : endsZ nxt n i = true := by
  obtain ⟨r, _, hx⟩ := exZ_of m i h
  obtain ⟨h1, h2, h3⟩ := chain_facts hr r i hx hi
  have h4 : ((chainZ nxt r i).map Int.toNat).Nodup := by
    have key : ∀ l : List Int, l.Nodup → (∀ z ∈ l, 0 ≤ z) → (l.map Int.toNat).Nodup := by
      intro l
      induction l with
      | nil => intro _ _; simp
      | cons a r ih =>
        intro hl hp
        rw [List.nodup_cons] at hl
        rw [List.map_cons, List.nodup_cons]
        refine ⟨fun hm => ?_, ih hl.2 (fun z hz => hp z (by simp [hz]))⟩
        obtain ⟨z, hz, e⟩ := List.mem_map.1 hm
        have h1 := hp a (by simp)
        have h2 := hp z (by simp [hz])
        have : z = a := by omega
        exact hl.1 (this ▸ hz)
    exact key _ h2 (fun z hz => (h3 z hz).1.1)
  have h5 := nodup_lt n _ h4 (fun y hy => by
    obtain ⟨z, hz, rfl⟩ := List.mem_map.1 hy
    have := (h3 z hz).1
    omega)
  rw [List.length_map, h1] at h5
  exact endsZ_le h5 hx.1
end
end Go.Proofs.YtbkhngoehoiccaaGreat
namespace Go.Proofs.YtbkhngoehoiccaaGreat
open Go.RowKit
def OwnPost (w : World) (L : AL) (e : Ending) (w' : World) : Prop := ∃ v, e = .returned v ∧ w'.ownsRow w.heap.size 70 2 v L.length (L.flatMap encA) ∧ Below w.heap.size w w'
set_option maxHeartbeats 4000000 in
theorem clone_any (a : Option Addr) (len cap : Nat) (L : AL) (w : World) (h : AttrRow w a len cap L) (h40 : len ≤ 1000000) :
    Calls Tryz.prog 98 #[.slice a len cap] w (OwnPost w L) := by
  obtain ⟨i0, hi0, hz0, hz1, hz2⟩ := info_parts attr_info
  have HL := Lib.hid h.hlen
  have q22 : ∀ (w : World) (a : Option Addr) (n c n' c' : Nat), (binOp .eql 55 (.slice a n c) (.slice none n' c')).run Tryz.prog w = .ok (.bool a.isNone) w := fun w a n c n' c' => Lib.run_eql_slice_nil w _ _ a n c n' c' Tryz.underlying55
  rcases a with _ | ad
  · have hc : cap = 0 := h.hnil rfl
    have h0 : len = 0 := by have := h.row.hcap; omega
    have hLn : L = [] := List.eq_nil_of_length_eq_zero (by rw [h.hlen, h0])
    subst hc; subst h0; subst hLn
    clear h
    go_enter Tryz.func98, Tryz.ntmps98
    go_wp2
    go_ret
    exact ⟨_, rfl, World.ownsRow_nil _ _ _ _, Below.refl _ _⟩
  · have H := Lib.hid h
    have hE := own_empty (α := ByteArray × ByteArray) (enc := encA) (size := 2) w w.heap.size 70 (Nat.le_refl _)
    have HE := Lib.hid hE
    clear h hE
    go_enter Tryz.func98, Tryz.ntmps98
    go_wp2_with (first
      | (at_builtin
         refine wpList_append_rows rfl (.tmp 5) (.tmp 6) 55 rfl 70 i0 _ 2 32 Tryz.underlying55 hi0 hz0 hz1 hz2 rfl (by decide) w.heap.size _ 0 _ L rfl HE.out (some ad) len cap rfl (H.out.below ((Below.refl _ _).alloc (Nat.le_refl _) _)).row (fun x _ => encA_one x) (by unfold maxLen; omega) (by omega) (by simp) (fun h => by cases h) ?_
         intro v2 w2 hown2 hg2 hat2
         have HB2 := below_new (Below.refl _ _) hg2
         have HO2 := Lib.hid hown2
         clear hown2 hg2 hat2))
    go_ret
    refine ⟨_, rfl, ?_, HB2⟩
    have := HO2.out
    rw [HL.out]
    simpa using this
end Go.Proofs.YtbkhngoehoiccaaGreat
namespace Go.Proofs.YtbkhngoehoiccaaGreat
open Go.RowKit
theorem below_setCells {B g : Nat} {a : World} (hg : B ≤ g) : ∀ (vs : List Value) (o : Nat) (w : World), Below B a w → Below B a (w.setCells g o vs)
  | [], _, _, h => h
  | v :: r, o, w, h => below_setCells hg r (o + 1) (w.setCell ⟨g, o, none⟩ v) (h.setCell hg v)
end Go.Proofs.YtbkhngoehoiccaaGreat
namespace Go.Proofs.YtbkhngoehoiccaaGreat
open Go.RowKit
def SetNew (w : World) (M : AL) (z : Int) (e : Ending) (w' : World) : Prop := ∃ a len cap, e = .returned (.tuple #[.slice a len cap, .int .i64 z]) ∧ AttrRow w' a len cap M ∧ Below w.heap.size w w' ∧ ∀ b off, a = some ⟨b, off, none⟩ → w.heap.size ≤ b
theorem SetNew.post {w w' : World} {M : AL} {z : Int} {e : Ending} (h : SetNew w M z e w') : SetPost w M z e w' := by
  obtain ⟨a, len, cap, h1, h2, h3, _⟩ := h
  exact ⟨a, len, cap, h1, h2, h3⟩
theorem AttrRow.of_own_new {w : World} {base : Nat} {v : Value} {n : Nat} {M : AL} (hl : M.length = n) (h : w.ownsRow base 70 2 v n (M.flatMap encA)) (hs : ∀ x ∈ M, x.1.size ≤ maxLen ∧ x.2.size ≤ maxLen) :
    ∃ a cap, v = .slice a n cap ∧ AttrRow w a n cap M ∧ ∀ b off, a = some ⟨b, off, none⟩ → base ≤ b := by
  rcases h.2 with ⟨rfl, h0⟩ | ⟨g, cap, cur, rfl, _⟩
  · subst h0
    have hL : M = [] := List.eq_nil_of_length_eq_zero hl
    subst hL
    exact ⟨none, 0, rfl, ⟨SRow.nil, hs, fun _ => rfl⟩, fun b off h => by cases h⟩
  · obtain ⟨a, cap', he, hr, hb⟩ := SRow.of_own (fun x _ => encA_len x) hl h
    injection he with h1 h2 h3
    subst h1; subst h3
    exact ⟨_, _, rfl, ⟨hr, hs, fun h => by cases h⟩, hb⟩
theorem SetNew.mk {w w' : World} {M : AL} {z : Int} {e : Ending} {v : Value} {n : Nat} (he : e = .returned (.tuple #[v, .int .i64 z])) (hl : M.length = n) (h : w'.ownsRow w.heap.size 70 2 v n (M.flatMap encA)) (hs : ∀ x ∈ M, x.1.size ≤ maxLen ∧ x.2.size ≤ maxLen) (hb : Below w.heap.size w w') : SetNew w M z e w' := by
  obtain ⟨a, cap, rfl, h1, h2⟩ := AttrRow.of_own_new hl h hs
  exact ⟨a, n, cap, he, h1, hb, h2⟩
end Go.Proofs.YtbkhngoehoiccaaGreat
namespace Go.Proofs.YtbkhngoehoiccaaGreat
open Go.RowKit
theorem hasZ_nodup : ∀ {L : List Int} {n : Int}, L.Nodup → hasZ L n = if n ∈ L then 1 else 0
  | [], n, _ => rfl
  | z :: l, n, h => by
    have h2 := List.nodup_cons.1 h
    have ih := hasZ_nodup (n := n) h2.2
    unfold hasZ at ih ⊢
    rw [List.countP_cons, ih]
    by_cases e : z = n
    · subst e
      rw [if_neg h2.1, if_pos (by simp), if_pos (List.mem_cons_self ..)]
    · rw [if_neg (show ¬ ((z == n) = true) from fun g => e (beq_iff_eq.1 g))]
      by_cases hm : n ∈ l
      · rw [if_pos hm, if_pos (List.mem_cons_of_mem _ hm)]
      · rw [if_neg hm, if_neg (fun g => by rcases List.mem_cons.1 g with g | g; exact e g.symm; exact hm g)]
end Go.Proofs.YtbkhngoehoiccaaGreat
namespace Go.Proofs.YtbkhngoehoiccaaGreat
open Go.RowKit
theorem own_stay {w V : World} {base : Nat} {e : TypeId} {size n : Nat} {v : Value} {xs : List Value} {r : Option Nat} (h : w.ownsRow base e size v n xs) (hg : w.grownBy V r) (hr : ∀ k, v.ownBlock = some k → some k ≠ r) : V.ownsRow base e size v n xs := by
  refine ⟨h.1, ?_⟩
  rcases h.2 with h0 | ⟨g, cap, cur, hv, hb, hh, h1, h2, h3, h4⟩
  · exact .inl h0
  · have hlt : g < w.heap.size := by
      rcases Nat.lt_or_ge g w.heap.size with h | h
      · exact h
      · rw [Array.getElem?_eq_none h] at hh; cases hh
    exact .inr ⟨g, cap, cur, hv, hb, (hg.block g hlt (hr g (by rw [hv]; rfl))).trans hh, h1, h2, h3, h4⟩
theorem grown_by {w V : World} (hb : Below w.heap.size w V) (r : Option Nat) : w.grownBy V r := ⟨hb.os, hb.tape, hb.output, hb.size, fun k hk _ => hb.block k hk⟩
theorem own_n {α : Type} {enc : α → List Value} {size : Nat} (henc : ∀ x, (enc x).length = size) (hpos : 0 < size) {w : World} {base : Nat} {e : TypeId} {v : Value} {n : Nat} {L : List α} (h : w.ownsRow base e size v n (L.flatMap enc)) : L.length = n := by
  have h1 := h.1
  rw [flat_len (fun x _ => henc x)] at h1
  exact Nat.eq_of_mul_eq_mul_right hpos h1
theorem LRow.of_own {α : Type} {enc : α → List Value} {size : Nat} {ok : α → Prop} (henc : ∀ x, (enc x).length = size) (hpos : 0 < size) {w : World} {base : Nat} {e : TypeId} {a : Option Addr} {n c : Nat} {L : List α} (h : w.ownsRow base e size (.slice a n c) n (L.flatMap enc)) (hok : ∀ x ∈ L, ok x) :
    LRow enc size ok w a n c L ∧ (∀ b o, a = some ⟨b, o, none⟩ → base ≤ b ∧ o = 0) := by
  obtain ⟨a', c', e', h2, h3⟩ := SRow.of_own (fun x _ => henc x) (own_n henc hpos h) h
  injection e' with e1 _ e3
  subst e1; subst e3
  rcases h.2 with ⟨hv, _⟩ | ⟨g, cap', cur, hv, _⟩
  · injection hv with e1 e2 e3
    subst e1; subst e2; subst e3
    exact ⟨⟨h2, hok, fun _ => rfl⟩, fun b o e => by cases e⟩
  · injection hv with e1 e2 e3
    subst e1
    exact ⟨⟨h2, hok, fun e => by cases e⟩, fun b o e => ⟨h3 b o e, by injection e with e; injection e with _ e; exact e.symm⟩⟩
def SHd.own {α : Type} (x : SHd α) : Option Nat := (Value.slice x.a x.n x.c).ownBlock
structure OwnRows {α : Type} (enc : α → List Value) (size : Nat) (ok : α → Prop) (base : Nat) (th te : TypeId) (W : World) (a : Option Addr) (n c : Nat) (T : List (SHd α)) : Prop where
  row : W.ownsRow base th 1 (.slice a n c) n (T.flatMap encH)
  each : ∀ x ∈ T, W.ownsRow base te size (.slice x.a x.n x.c) x.n (x.l.flatMap enc)
  ok : ∀ x ∈ T, ∀ y ∈ x.l, ok y
  apart : ∀ (i j : Nat) (x y : SHd α), i ≠ j → T[i]? = some x → T[j]? = some y → ∀ k, x.own = some k → some k ≠ y.own
section
variable {α : Type} {enc : α → List Value} {size : Nat} {ok : α → Prop} {base : Nat} {th te : TypeId} {W V : World} {a : Option Addr} {n c : Nat} {T : List (SHd α)}
theorem OwnRows.stay (h : OwnRows enc size ok base th te W a n c T) {r : Option Nat} (hg : W.grownBy V r) (h1 : ∀ k, (Value.slice a n c).ownBlock = some k → some k ≠ r) (h2 : ∀ x ∈ T, ∀ k, x.own = some k → some k ≠ r) : OwnRows enc size ok base th te V a n c T :=
  ⟨own_stay h.row hg h1, fun x hx => own_stay (h.each x hx) hg (h2 x hx), h.ok, h.apart⟩
theorem OwnRows.keep (h : OwnRows enc size ok base th te W a n c T) (hb : Below W.heap.size W V) : OwnRows enc size ok base th te V a n c T :=
  h.stay (grown_by hb none) (fun _ _ e => by cases e) (fun _ _ _ _ e => by cases e)
theorem OwnRows.hlen (h : OwnRows enc size ok base th te W a n c T) : T.length = n := own_n (fun x => encH_len x) (by decide) h.row
theorem OwnRows.hrow (h : OwnRows enc size ok base th te W a n c T) (henc : ∀ x, (enc x).length = size) (hpos : 0 < size) : HRow enc size ok W a n c T ∧ (∀ b o, a = some ⟨b, o, none⟩ → base ≤ b ∧ o = 0) ∧ ∀ x ∈ T, ∀ b o, x.a = some ⟨b, o, none⟩ → base ≤ b ∧ o = 0 := by
  have h1 := LRow.of_own (ok := fun _ : SHd α => True) (fun x => encH_len x) (by decide) h.row (fun _ _ => trivial)
  exact ⟨⟨h1.1.row, fun x hx => (LRow.of_own henc hpos (h.each x hx) (h.ok x hx)).1, h1.1.hnil⟩, h1.2, fun x hx => (LRow.of_own henc hpos (h.each x hx) (h.ok x hx)).2⟩
theorem OwnRows.lt (h : OwnRows enc size ok base th te W a n c T) {x : SHd α} (hx : x ∈ T) {k : Nat} (hk : x.own = some k) : base ≤ k ∧ k < W.heap.size := (h.each x hx).lt k hk
end
theorem info_parts11 {t : TypeId} {z : Value} {s b : Nat} (h : (Tryz.prog.info? t).map (fun i => (i.zero, i.size, i.bytes)) = some (some z, s, b)) : ∃ i, Tryz.prog.info? t = some i ∧ i.zero = some z ∧ i.size = s ∧ i.bytes = b := by
  cases hi : Tryz.prog.info? t with
  | none => rw [hi] at h; simp at h
  | some i =>
    rw [hi] at h
    simp at h
    exact ⟨i, rfl, h.1, h.2.1, h.2.2⟩
def OwnP {α : Type} (enc : α → List Value) (size : Nat) (te : TypeId) (w : World) (L : List α) (e : Ending) (w' : World) : Prop := ∃ a c, e = .returned (.slice a L.length c) ∧ w'.ownsRow w.heap.size te size (.slice a L.length c) L.length (L.flatMap enc) ∧ Below w.heap.size w w'
theorem own_form11 {w : World} {base : Nat} {e : TypeId} {size : Nat} {v : Value} {n : Nat} {xs : List Value} (h : w.ownsRow base e size v n xs) : ∃ a c, v = .slice a n c := by
  rcases h.2 with ⟨rfl, h0⟩ | ⟨g, cap, cur, rfl, _⟩
  · exact ⟨none, 0, by rw [h0]⟩
  · exact ⟨_, _, rfl⟩
theorem own_p {α : Type} {enc : α → List Value} {size : Nat} {te : TypeId} {w w' : World} {L : List α} {v : Value} (h : w'.ownsRow w.heap.size te size v L.length (L.flatMap enc)) (hb : Below w.heap.size w w') : OwnP enc size te w L (.returned v) w' := by
  obtain ⟨a, c, rfl⟩ := own_form11 h
  exact ⟨a, c, rfl, h, hb⟩
end Go.Proofs.YtbkhngoehoiccaaGreat
namespace Go.Proofs.YtbkhngoehoiccaaGreat
open Go.RowKit
def shortD (x : DefD) : Bool := decide (x.name.size ≤ 300) && decide (x.loc.size ≤ 300)
def shortT (x : WaitD) : Bool := decide (x.name.size ≤ 300)
def shortK (L : List DefD) (M : List WaitD) : Bool := decide (L.length ≤ 40) && decide (M.length ≤ 40) && L.all shortD && M.all shortT
theorem shortK_iff {L : List DefD} {M : List WaitD} : shortK L M = true ↔ L.length ≤ 40 ∧ M.length ≤ 40 ∧ (∀ x ∈ L, x.name.size ≤ 300 ∧ x.loc.size ≤ 300) ∧ ∀ x ∈ M, x.name.size ≤ 300 := by
  unfold shortK shortD shortT
  simp only [Bool.and_eq_true, decide_eq_true_eq, List.all_eq_true]
  constructor
  · rintro ⟨⟨⟨h1, h2⟩, h3⟩, h4⟩; exact ⟨h1, h2, h3, h4⟩
  · rintro ⟨h1, h2, h3, h4⟩; exact ⟨⟨⟨h1, h2⟩, h3⟩, h4⟩
theorem short_no {L : List DefD} {M : List WaitD} (h : shortK L M = true → False) : shortK L M = false := by
  cases hs : shortK L M with
  | false => rfl
  | true => exact absurd hs h
set_option maxHeartbeats 8000000 in
set_option maxRecDepth 100000 in
theorem refshort9_any (da : Option Addr) (dl dc : Nat) (wa : Option Addr) (wl wc : Nat) (nx : Int) (bz : Bool) (L : List DefD) (M : List WaitD) (w : World) (hd0 : DefRow w da dl dc L) (ht0 : WaitRow w wa wl wc M) :
    Calls Tryz.prog 9 #[deskV da dl dc wa wl wc nx bz] w fun e w' => e = .returned (.bool (shortK L M)) ∧ Below w.heap.size w w' := by
  have hl := hd0.len64
  have hl2 := ht0.len64
  have HLN := Lib.hid hd0.hlen
  have HTN := Lib.hid ht0.hlen
  have hd := hd0.below (below_desk w (deskB da dl dc wa wl wc nx bz))
  have ht := ht0.below (below_desk w (deskB da dl dc wa wl wc nx bz))
  clear hd0 ht0
  by_cases n0 : 40 < (dl : Int)
  · have HR : Hid (shortK L M = false) := Lib.hid (short_no fun h => by have := (shortK_iff.1 h).1; rw [HLN.out] at this; omega)
    go_enter Tryz.func9, Tryz.ntmps9
    go_wp2
    go_ret
    exact ⟨ret_bool HR.out.symm, below_desk _ _⟩
  by_cases n1 : 40 < (wl : Int)
  · have HR : Hid (shortK L M = false) := Lib.hid (short_no fun h => by have := (shortK_iff.1 h).2.1; rw [HTN.out] at this; omega)
    go_enter Tryz.func9, Tryz.ntmps9
    go_wp2
    go_ret
    exact ⟨ret_bool HR.out.symm, below_desk _ _⟩
  go_enter Tryz.func9, Tryz.ntmps9
  go_wp2
  go_loop [3] (fun i => ∃ k : Nat, k ≤ dl ∧ i = .int .i64 k ∧ Hid (∀ (j : Nat) x, j < k → L[j]? = some x → x.name.size ≤ 300 ∧ x.loc.size ≤ 300)) (fun i => dl - (intOf i).toNat)
  case atStart => exact ⟨0, Nat.zero_le _, rfl, Lib.hid (fun j x hj => absurd hj (by omega))⟩
  case round =>
    obtain ⟨k, hk, rfl, HA⟩ := hrel
    by_cases hlt : k < dl
    · obtain ⟨b, off, x, rfl, hb, hx, c0, c1, -, hok⟩ := hd.get hlt
      have hb2 : b < w.heap.size + 1 := by simpa using hb
      have HX := Lib.hid hx
      have hs0 : x.name.size ≤ 9223372036854775807 := by have := hok.1; unfold maxLen at this; omega
      have hs1 : x.loc.size ≤ 9223372036854775807 := by have := hok.2.1; unfold maxLen at this; omega
      clear hx hok
      obtain ⟨n, o, c⟩ := x
      dsimp only at c0 c1 hs0 hs1
      by_cases q1 : (300 : Int) < (n.size : Int)
      · have HR : Hid (shortK L M = false) := Lib.hid (short_no fun h => by have := ((shortK_iff.1 h).2.2.1 _ (List.mem_of_getElem? HX.out)).1; dsimp only at this; omega)
        go_wp2
        go_ret
        exact ⟨ret_bool HR.out.symm, below_desk _ _⟩
      by_cases q2 : (300 : Int) < (o.size : Int)
      · have HR : Hid (shortK L M = false) := Lib.hid (short_no fun h => by have := ((shortK_iff.1 h).2.2.1 _ (List.mem_of_getElem? HX.out)).2; dsimp only at this; omega)
        go_wp2
        go_ret
        exact ⟨ret_bool HR.out.symm, below_desk _ _⟩
      have HG : Hid (∀ (j : Nat) x, j < k + 1 → L[j]? = some x → x.name.size ≤ 300 ∧ x.loc.size ≤ 300) := Lib.hid (fun j x hj hx => by
        by_cases e : j = k
        · subst e
          rw [HX.out] at hx
          obtain rfl := Option.some.inj hx
          dsimp only
          omega
        · exact HA.out j x (by omega) hx)
      go_wp2
      go_round
      case rel => exact ⟨k + 1, by omega, by go_num, HG⟩
      case measure => simp [intOf]; omega
    · have HD : Hid (∀ x ∈ L, x.name.size ≤ 300 ∧ x.loc.size ≤ 300) := Lib.hid (fun x hx => by
        obtain ⟨j, hj⟩ := List.getElem?_of_mem hx
        exact HA.out j x (by obtain ⟨h1, _⟩ := List.getElem?_eq_some_iff.1 hj; rw [HLN.out] at h1; omega) hj)
      go_wp2
      go_loop [4] (fun i => ∃ k : Nat, k ≤ wl ∧ i = .int .i64 k ∧ Hid (∀ (j : Nat) x, j < k → M[j]? = some x → x.name.size ≤ 300)) (fun i => wl - (intOf i).toNat)
      case atStart => exact ⟨0, Nat.zero_le _, rfl, Lib.hid (fun j x hj => absurd hj (by omega))⟩
      case round =>
        obtain ⟨k, hk, rfl, HA⟩ := hrel
        by_cases hlt : k < wl
        · obtain ⟨b, off, x, rfl, hb, hx, c0, -, hok⟩ := ht.get hlt
          have hb2 : b < w.heap.size + 1 := by simpa using hb
          have HX := Lib.hid hx
          have hs0 : x.name.size ≤ 9223372036854775807 := by have := hok.1; unfold maxLen at this; omega
          clear hx hok
          obtain ⟨n, c⟩ := x
          dsimp only at c0 hs0
          by_cases q1 : (300 : Int) < (n.size : Int)
          · have HR : Hid (shortK L M = false) := Lib.hid (short_no fun h => by have := (shortK_iff.1 h).2.2.2 _ (List.mem_of_getElem? HX.out); dsimp only at this; omega)
            go_wp2
            go_ret
            exact ⟨ret_bool HR.out.symm, below_desk _ _⟩
          have HG : Hid (∀ (j : Nat) x, j < k + 1 → M[j]? = some x → x.name.size ≤ 300) := Lib.hid (fun j x hj hx => by
            by_cases e : j = k
            · subst e
              rw [HX.out] at hx
              obtain rfl := Option.some.inj hx
              dsimp only
              omega
            · exact HA.out j x (by omega) hx)
          go_wp2
          go_round
          case rel => exact ⟨k + 1, by omega, by go_num, HG⟩
          case measure => simp [intOf]; omega
        · have HR : Hid (shortK L M = true) := Lib.hid (shortK_iff.2 ⟨by rw [HLN.out]; omega, by rw [HTN.out]; omega, HD.out, fun x hx => by
            obtain ⟨j, hj⟩ := List.getElem?_of_mem hx
            exact HA.out j x (by obtain ⟨h1, _⟩ := List.getElem?_eq_some_iff.1 hj; rw [HTN.out] at h1; omega) hj⟩)
          go_wp2
          go_ret
          exact ⟨ret_bool HR.out.symm, below_desk _ _⟩
end Go.Proofs.YtbkhngoehoiccaaGreat
namespace Go.Proofs.YtbkhngoehoiccaaGreat
open Go.RowKit Go.Deep Go.ChangeShapes Go.WideShapes
theorem open_rows {α : Type} (enc : α → List Value) (size : Nat) (ok : α → Prop) {ts te : TypeId} (hts : Tryz.prog.underlying ts = some (.slice te)) (ce : Tryz.prog.cellsOf te = size) (hpos : 0 < size)
    {H : Type} {en : TypeId × Value → H} {W : World} {a : Option Addr} {len cap : Nat} {d : DataW H} {p : List MemPlace}
    (one : ∀ (cs : List Value) (fuel : Nat) (d : DataW H) (p : List MemPlace), cs.length = size → DataW.trod en Tryz.prog W 0 (fun _ => true) true fuel te cs = some (d, p) → ∃ x, cs = enc x ∧ ok x)
    (h : DataW.Trod en Tryz.prog W 0 (fun _ => true) true ts (.slice a len cap) d p) : ∃ L, SRow enc size W a len cap L ∧ (∀ x ∈ L, ok x) ∧ (a = none → cap = 0) := by
  obtain ⟨fuel, hf⟩ := h
  rcases open_slice hts hf with ⟨hcs, _⟩ | ⟨ad, l, c, m, n, D, Pl, hcs, _, hl, hm, hmm, _, hi⟩
  · simp [Value.cells] at hcs
    obtain ⟨rfl, rfl, rfl⟩ := hcs
    exact ⟨[], SRow.nil, (fun x hx => by cases hx), fun _ => rfl⟩
  · simp [Value.cells] at hcs
    obtain ⟨rfl, rfl, rfl⟩ := hcs
    have hml : len ≤ m := by rw [hmm]; simpa using hl
    have each : ∀ i, i < len → ∃ x : α, ((enc x).length = size ∧ ok x) ∧ ∀ j v, (enc x)[j]? = some v → W.cell? (ad.add (i * size + j)) = some v := by
      intro i hil
      obtain ⟨cs', h1, h2⟩ := hi i (by omega)
      rw [ce] at h1
      obtain ⟨_, hlen, hcell⟩ := World.cells?_some h1
      obtain ⟨x, hx, hok⟩ := one _ _ _ _ hlen h2
      refine ⟨x, ⟨by rw [← hx, hlen], hok⟩, fun j v hv => ?_⟩
      have hj : j < size := by
        have := (List.getElem?_eq_some_iff.1 hv).1
        rwa [← hx, hlen] at this
      have e0 := hcell j hj
      rw [add_add, hx, hv] at e0
      exact e0
    rcases Nat.eq_zero_or_pos len with h0 | h0
    · subst h0
      exact ⟨[], ⟨rfl, hl, hm, (fun x hx => by cases hx), .inl rfl⟩, (fun x hx => by cases hx), fun e => by cases e⟩
    obtain ⟨q, hq⟩ : ∃ q : Nat → α, ∀ i, i < len → ((enc (q i)).length = size ∧ ok (q i)) ∧ ∀ j v, (enc (q i))[j]? = some v → W.cell? (ad.add (i * size + j)) = some v := by
      refine ⟨fun i => if h : i < len then (each i h).choose else (each 0 h0).choose, fun i hil => ?_⟩
      simp only [dif_pos hil]
      exact (each i hil).choose_spec
    refine ⟨(List.range len).map q, ⟨by simp, hl, hm, fun x hx => ?_, ?_⟩, ?_, fun h => by cases h⟩
    · obtain ⟨i, hi1, rfl⟩ := List.mem_map.1 hx
      exact (hq i (List.mem_range.1 hi1)).1.1
    · obtain ⟨b, off, spot⟩ := ad
      have hlen0 := (hq 0 h0).1.1
      have hc := (hq 0 h0).2 0 _ (List.getElem?_eq_getElem (by omega))
      have hspot : spot = none := by simpa [Addr.add] using World.cell?_spot hc
      subst hspot
      refine .inr ⟨b, off, rfl, ?_, ?_⟩
      · have := block_lt hc
        rwa [add_plain] at this
      · intro i x j v hx hv
        obtain ⟨hil, hgx⟩ := List.getElem?_eq_some_iff.1 hx
        have hil' : i < len := by simpa using hil
        simp at hgx
        have h1 := (hq i hil').2 j v (by rw [hgx]; exact hv)
        rw [add_plain] at h1
        simpa [Nat.add_assoc] using h1
    · intro x hx
      obtain ⟨i, hi1, rfl⟩ := List.mem_map.1 hx
      exact (hq i (List.mem_range.1 hi1)).1.2
end Go.Proofs.YtbkhngoehoiccaaGreat
