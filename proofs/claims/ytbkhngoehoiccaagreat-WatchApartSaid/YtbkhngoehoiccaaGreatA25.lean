/- Texts joined in build order: DueRow MoveAs MovePutMath MoveParts MovePut OwnRows DeskMay HeirSmall. -/
import Derived.Test.YtbkhngoehoiccaaGreatA16
import Derived.Test.YtbkhngoehoiccaaGreatA24
import Derived.Test.YtbkhngoehoiccaaGreatA19
import Derived.Test.YtbkhngoehoiccaaGreatA23
import Derived.Test.YtbkhngoehoiccaaGreatA07
import Derived.Deep.SlicePairs
import Derived.Laws.IdiomCopy
import Derived.Test.YtbkhngoehoiccaaGreatA20
import Derived.Test.YtbkhngoehoiccaaGreatA05
import Derived.Test.YtbkhngoehoiccaaGreatA15
import Derived.Deep.RegionHeld3
namespace Go.Proofs.YtbkhngoehoiccaaGreat
open Go.RowKit
structure TodoD where
  kind : Int
  dfn : Int
  name : ByteArray
  had : Bool
  has : Bool
  old : ByteArray
  new : ByteArray
  src : Int
  dst : Int
  on : Bool
deriving DecidableEq
structure DueD where
  node : Int
  todo : TodoD
deriving DecidableEq
abbrev todoL (x : TodoD) : List Value := [.int .i64 x.kind, .int .i64 x.dfn, .string x.name, .bool x.had, .bool x.has, .string x.old, .string x.new, .int .i64 x.src, .int .i64 x.dst, .bool x.on]
def encU (x : DueD) : List Value := .int .i64 x.node :: todoL x.todo
theorem encU_len (x : DueD) : (encU x).length = 11 := rfl
theorem encU_one (x : DueD) : ∀ u ∈ encU x, u.oneCell' = true := by
  intro u hu
  simp [encU] at hu
  rcases hu with rfl | rfl | rfl | rfl | rfl | rfl | rfl | rfl | rfl | rfl | rfl <;> rfl
structure DueRow (w : World) (a : Option Addr) (len cap : Nat) (L : List DueD) : Prop where
  row : SRow encU 11 w a len cap L
  hnil : a = none → cap = 0
theorem DueRow.below {w w' : World} {a : Option Addr} {len cap : Nat} {L : List DueD} (h : DueRow w a len cap L) (hb : Below w.heap.size w w') : DueRow w' a len cap L := ⟨h.row.below hb, h.hnil⟩
theorem DueRow.nil (w : World) : DueRow w none 0 0 [] := ⟨SRow.nil, fun _ => rfl⟩
def DuePost (w : World) (l : List DueD) (e : Ending) (w' : World) : Prop := ∃ a len cap, e = .returned (.slice a len cap) ∧ DueRow w' a len cap l ∧ Below w.heap.size w w'
theorem DueRow.of_own {w : World} {base n : Nat} {v : Value} {L : List DueD} (hl : L.length = n) (h : w.ownsRow base 66 11 v n (L.flatMap encU)) : ∃ a c, v = .slice a n c ∧ DueRow w a n c L := by
  obtain ⟨a, c, e, hr, hn⟩ := SRow.of_own (fun z _ => encU_len z) hl h
  refine ⟨a, c, e, hr, fun ha => ?_⟩
  subst ha
  rcases h.2 with ⟨hv, _⟩ | ⟨g, cap, cur, hv, _⟩
  · rw [e] at hv
    injection hv
  · rw [e] at hv
    cases hv
theorem due_info : (Tryz.prog.info? 66).map (fun i => (i.zero, i.size, i.bytes)) = some (some (.agg #[.int .i64 0, .int .i64 0, .int .i64 0, .string ⟨#[]⟩, .bool false, .bool false, .string ⟨#[]⟩, .string ⟨#[]⟩, .int .i64 0, .int .i64 0, .bool false]), 11, 104) := by kernel_rfl
abbrev upT (d : Int) : TodoD := ⟨9, d, ⟨#[]⟩, false, false, ⟨#[]⟩, ⟨#[]⟩, 0, 0, false⟩
end Go.Proofs.YtbkhngoehoiccaaGreat
namespace Go.Proofs.YtbkhngoehoiccaaGreat
open Go.RowKit Go.Extern.Stop Go.Stop Go.Extern
end Go.Proofs.YtbkhngoehoiccaaGreat
namespace Go.Proofs.YtbkhngoehoiccaaGreat
open Go.RowKit
structure PutInv (m : Int) (F : List Core) (p : Nat) (l : List Int) (b : Int) : Prop where
  right : rightF m F = true
  lt : p < F.length
  kp : kindK F p ≠ 2
  once : l.Nodup
  ls : ∀ z ∈ l, ∃ q : Nat, z = q ∧ q < F.length ∧ (kindK F q = 1 ∨ kindK F q = 2)
  over : ∀ q : Nat, (q : Int) ∈ l → ¬ holdsT (parS F) q p
  root : kindK F p = 0 → (kidsK F p).length + l.length ≤ 1 ∧ ∀ k ∈ l, kindK F k = 1
  before : b = -1 ∨ (b ∈ kidsK F p ∧ b ∉ l)
section
variable {m : Int} {F G : List Core} {p : Nat} {l r : List Int} {b : Int}
theorem kidsK_edit {P : Nat → Core → Int} {K : Nat → Core → List Int} {D : Nat → Core → Int} (h : Edit F G P K D) {c : Core} (hc : F[p]? = some c) : kidsK G p = K p c := kidsK_get (h.at_ p c hc)
theorem PutInv.out (h : PutInv m F p l b) {q : Nat} (hq : (q : Int) ∈ l) (hp : parentK F q ≠ -1) : PutInv m (mvOut F q) p l b := by
  obtain ⟨q', e, hql, _⟩ := h.ls _ hq
  obtain rfl : q = q' := by omega
  have hx : F[q]? = some F[q] := List.getElem?_eq_getElem hql
  rw [parentK_at hx] at hp
  obtain ⟨a, ha1, ha2, ho⟩ := mvOut_out h.right hx hp
  obtain ⟨cp, hc⟩ : ∃ cp, F[p]? = some cp := ⟨_, List.getElem?_eq_getElem h.lt⟩
  have hk : kidsK (mvOut F q) p = if p = a then cp.kids.filter (fun z => z != (q : Int)) else cp.kids := kidsK_edit ho.ed hc
  have hk0 : kidsK F p = cp.kids := kidsK_get hc
  refine ⟨ho.rightG, by rw [ho.ed.len]; exact h.lt, by rw [ho.ed.kindK]; exact h.kp, h.once, fun z hz => ?_, fun t ht hh => ?_, fun e => ?_, ?_⟩
  · obtain ⟨t, h1, h2, h3⟩ := h.ls z hz
    exact ⟨t, h1, by rw [ho.ed.len]; exact h2, by rw [ho.ed.kindK]; exact h3⟩
  · obtain ⟨t', e, htl, _⟩ := h.ls _ ht
    obtain rfl : t = t' := by omega
    exact h.over t ht ((ho.over htl h.lt).1 hh).1
  · rw [ho.ed.kindK] at e
    obtain ⟨h1, h2⟩ := h.root e
    refine ⟨?_, fun k hk => by rw [ho.ed.kindK]; exact h2 k hk⟩
    rw [hk]
    rw [hk0] at h1
    split
    · exact Nat.le_trans (Nat.add_le_add_right (List.length_filter_le _ _) _) h1
    · exact h1
  · rcases h.before with e | ⟨h1, h2⟩
    · exact .inl e
    · refine .inr ⟨?_, h2⟩
      rw [hk]
      rw [hk0] at h1
      split
      · rw [List.mem_filter]
        exact ⟨h1, bne_iff_ne.2 (fun e => h2 (by rw [e]; exact hq))⟩
      · exact h1
theorem parS_same {F G : List Core} (h : ∀ j : Nat, nextUp G (j : Int) = nextUp F j) : parS G = parS F := by
  funext j
  unfold parS
  rw [h j]
theorem PutInv.doc (h : PutInv m F p l b) {q : Nat} (hq : (q : Int) ∈ l) (hp : parentK F q = -1) {d : Int} (hd : ∃ c, getC F d = some c ∧ c.kind = 0) : PutInv m (mvDoc F q d) p l b := by
  obtain ⟨q', e, hql, hqk⟩ := h.ls _ hq
  obtain rfl : q = q' := by omega
  have T := taken_doc h.right hql hp hqk hd
  obtain ⟨cp, hc⟩ : ∃ cp, F[p]? = some cp := ⟨_, List.getElem?_eq_getElem h.lt⟩
  have hk : kidsK (mvDoc F q d) p = kidsK F p := by rw [kidsK_edit T.ed hc, kidsK_get hc]
  have hpar := parS_same T.next
  exact ⟨T.rightG, by rw [T.ed.len]; exact h.lt, by rw [T.ed.kindK]; exact h.kp, h.once, fun z hz => by
    obtain ⟨t, h1, h2, h3⟩ := h.ls z hz
    exact ⟨t, h1, by rw [T.ed.len]; exact h2, by rw [T.ed.kindK]; exact h3⟩, fun t ht hh => h.over t ht (by rw [hpar] at hh; exact hh), fun e => by
    rw [T.ed.kindK] at e
    rw [hk]
    obtain ⟨h1, h2⟩ := h.root e
    exact ⟨h1, fun k hk => by rw [T.ed.kindK]; exact h2 k hk⟩, by rw [hk]; exact h.before⟩
theorem PutInv.put {q : Nat} (h : PutInv m F p ((q : Int) :: r) b) (hp : parentK F q = -1) (hd : docK F q = docK F p) : PutInv m (mvIn F q p b) p r b := by
  have hq : (q : Int) ∈ (q : Int) :: r := List.mem_cons_self
  obtain ⟨q', e, hql, hqk⟩ := h.ls _ hq
  obtain rfl : q = q' := by omega
  have hx : F[q]? = some F[q] := List.getElem?_eq_getElem hql
  obtain ⟨cp, hc⟩ : ∃ cp, F[p]? = some cp := ⟨_, List.getElem?_eq_getElem h.lt⟩
  have hov := h.over q hq
  have hqp : q ≠ p := fun e => hov (by rw [e]; exact holds_refl p)
  have hk0 : kidsK F p = cp.kids := kidsK_get hc
  have notin : ∀ (j : Nat) (c : Core), F[j]? = some c → (q : Int) ∉ c.kids := fun j c hj hm => by
    obtain ⟨c', h1, _, h3, _⟩ := (right_node h.right hj).kids _ hm
    rw [getC_nat, hx] at h1
    rw [parentK_at hx] at hp
    rw [← Option.some.inj h1, hp] at h3
    omega
  have hb : b = -1 ∨ b ∈ cp.kids := by
    rcases h.before with e | ⟨h1, _⟩
    · exact .inl e
    · rw [hk0] at h1
      exact .inr h1
  have hfil : ∀ (j : Nat) (c : Core), F[j]? = some c → c.kids.filter (fun z => !([(q : Int)] : List Int).contains z) = c.kids := fun j c hj => List.filter_eq_self.2 (fun z hz => by
    have : z ≠ (q : Int) := fun e => notin j c hj (by rw [← e]; exact hz)
    simpa using this)
  have hedi := edF_edit F (fun j c => if j = q then (p : Int) else c.parent) (fun j c => if j = p then insB c.kids b q else c.kids) (fun _ c => c.doc)
  have hIn : PutIn m F (mvIn F q p b) [(q : Int)] p cp (cp.kids.take (insAt cp.kids b)) (cp.kids.drop (insAt cp.kids b)) (fun j => decide ((j : Int) ∈ allI F q)) := by
    refine ⟨h.right, hc, by rw [← kindK_at hc]; exact h.kp, by simp, fun z hz => ?_, fun t ht => ?_, ?_, fun e => ?_, fun j hj => ?_, hedi.cong (fun j c hj => ⟨?_, ?_, ?_⟩)⟩
    · rw [List.mem_singleton] at hz
      exact ⟨q, F[q], hz, hx, by rw [← kindK_at hx]; exact hqk⟩
    · have : t = q := Int.ofNat_inj.1 (by simpa using ht)
      rw [this]
      exact hov
    · rw [List.take_append_drop]
      exact (hfil p _ hc).symm
    · have h1 := h.root (by rw [kindK_at hc]; exact e)
      rw [hk0, List.length_cons] at h1
      have hnil : cp.kids = [] := List.eq_nil_of_length_eq_zero (by omega)
      rw [hnil]
      simp only [List.take_nil, List.drop_nil, List.nil_append, List.append_nil, List.length_singleton]
      exact ⟨Nat.le_refl _, fun k hk => by rw [List.mem_singleton] at hk; rw [hk]; exact h1.2 _ hq⟩
    · rw [decide_eq_true_iff, mem_all h.right hql hj]
      constructor
      · exact fun hh => ⟨q, by simp, hh⟩
      · rintro ⟨t, ht, hh⟩
        have : t = q := Int.ofNat_inj.1 (by simpa using ht)
        rw [← this]
        exact hh
    · by_cases e : j = q
      · subst e; simp
      · rw [if_neg e, if_neg (by simpa using (fun h2 => e (by omega) : (j : Int) ≠ (q : Int)))]
    · by_cases e : j = p
      · subst e
        rw [hc] at hj
        rw [if_pos rfl, if_pos rfl, ← Option.some.inj hj, ← insB_eq]
        simp
      · rw [if_neg e, if_neg e, hfil j c hj]
    · by_cases e : (j : Int) ∈ allI F q
      · have hjl := (List.getElem?_eq_some_iff.1 hj).1
        have h1 := doc_all h.right hql e hjl
        rw [hd, docK_at hj, docK_at hc] at h1
        simp only [decide_eq_true e, if_true]
        exact h1
      · simp only [decide_eq_false e, Bool.false_eq_true, if_false]
  have hed : Edit F (mvIn F q p b) (fun j c => if j = q then (p : Int) else c.parent) (fun j c => if j = p then insB c.kids b q else c.kids) (fun _ c => c.doc) := hedi
  have hkG : kidsK (mvIn F q p b) p = insB cp.kids b q := by rw [kidsK_edit hed hc]; exact if_pos rfl
  have hup : ∀ (k c a : Nat), c < F.length → ¬ holdsT (parS F) q c → upN (parS (mvIn F q p b)) k c = some a → upN (parS F) k c = some a := by
    intro k
    induction k with
    | zero => exact fun c a _ _ hu => hu
    | succ k ih =>
      intro c a hcl hn hu
      unfold upN at hu ⊢
      have hcq : c ≠ q := fun e => hn (by rw [e]; exact holds_refl q)
      have hpc : parS (mvIn F q p b) c = parS F c := by
        unfold parS
        have h1 := hIn.next hcl
        rw [if_neg (by simpa using (fun h2 => hcq (by omega) : (c : Int) ≠ (q : Int)))] at h1
        rw [h1]
      rw [hpc] at hu
      cases hq2 : parS F c with
      | none => rw [hq2] at hu; cases hu
      | some t =>
        rw [hq2] at hu
        exact ih t a (parS_next h.right hcl hq2).2 (fun hh => hn (holds_trans hh (holds_par hq2))) hu
  refine ⟨hIn.rightG, by rw [hed.len]; exact h.lt, by rw [hed.kindK]; exact h.kp, (List.nodup_cons.1 h.once).2, fun z hz => ?_, fun t ht hh => ?_, fun e => ?_, ?_⟩
  · obtain ⟨t, h1, h2, h3⟩ := h.ls z (List.mem_cons_of_mem _ hz)
    exact ⟨t, h1, by rw [hed.len]; exact h2, by rw [hed.kindK]; exact h3⟩
  · obtain ⟨k, hk⟩ := hh
    exact h.over t (List.mem_cons_of_mem _ ht) ⟨k, hup k p t h.lt hov hk⟩
  · rw [hed.kindK] at e
    obtain ⟨h1, h2⟩ := h.root e
    refine ⟨?_, fun k hk => by rw [hed.kindK]; exact h2 k (List.mem_cons_of_mem _ hk)⟩
    rw [hkG, ← insB_eq]
    rw [hk0, List.length_cons] at h1
    simp only [List.length_append, List.length_cons, List.length_take, List.length_drop]
    omega
  · rcases h.before with e | ⟨h1, h2⟩
    · exact .inl e
    · refine .inr ⟨?_, fun hh => h2 (List.mem_cons_of_mem _ hh)⟩
      rw [hkG, ← insB_eq]
      rw [hk0, ← List.take_append_drop (insAt cp.kids b) cp.kids] at h1
      rcases List.mem_append.1 h1 with h1 | h1
      · exact List.mem_append.2 (.inl h1)
      · exact List.mem_append.2 (.inr (List.mem_cons_of_mem _ h1))
end
end Go.Proofs.YtbkhngoehoiccaaGreat
namespace Go.Proofs.YtbkhngoehoiccaaGreat
open Go.RowKit
end Go.Proofs.YtbkhngoehoiccaaGreat
namespace Go.Proofs.YtbkhngoehoiccaaGreat
open Go.RowKit
section
variable {m : Int}
end
section
variable {ρ : Nat → Nat} {pw g cap len : Nat} {m : Int} {M : List NodeD} {v : Value} {N : List NoteD}
end
end Go.Proofs.YtbkhngoehoiccaaGreat
namespace Go.Proofs.YtbkhngoehoiccaaGreat
open Go.RowKit
theorem own_stay {w V : World} {base : Nat} {e : TypeId} {size n : Nat} {v : Value} {xs : List Value} {r : Option Nat} (h : w.ownsRow base e size v n xs) (hg : w.grownBy V r) (hr : ∀ k, v.ownBlock = some k → some k ≠ r) : V.ownsRow base e size v n xs := by
  refine ⟨h.1, ?_⟩
  rcases h.2 with h0 | ⟨g, cap, cur, hv, hb, hh, h1, h2, h3, h4⟩
  · exact .inl h0
  · have hlt : g < w.heap.size := by
      rcases Nat.lt_or_ge g w.heap.size with h | h
      · exact h
      · rw [Array.getElem?_eq_none h] at hh; cases hh
    exact .inr ⟨g, cap, cur, hv, hb, (hg.block g hlt (hr g (by rw [hv]; rfl))).trans hh, h1, h2, h3, h4⟩
theorem grown_by {w V : World} (hb : Below w.heap.size w V) (r : Option Nat) : w.grownBy V r := ⟨hb.os, hb.tape, hb.output, hb.size, fun k hk _ => hb.block k hk⟩
theorem own_n {α : Type} {enc : α → List Value} {size : Nat} (henc : ∀ x, (enc x).length = size) (hpos : 0 < size) {w : World} {base : Nat} {e : TypeId} {v : Value} {n : Nat} {L : List α} (h : w.ownsRow base e size v n (L.flatMap enc)) : L.length = n := by
  have h1 := h.1
  rw [flat_len (fun x _ => henc x)] at h1
  exact Nat.eq_of_mul_eq_mul_right hpos h1
theorem LRow.of_own {α : Type} {enc : α → List Value} {size : Nat} {ok : α → Prop} (henc : ∀ x, (enc x).length = size) (hpos : 0 < size) {w : World} {base : Nat} {e : TypeId} {a : Option Addr} {n c : Nat} {L : List α} (h : w.ownsRow base e size (.slice a n c) n (L.flatMap enc)) (hok : ∀ x ∈ L, ok x) :
    LRow enc size ok w a n c L ∧ (∀ b o, a = some ⟨b, o, none⟩ → base ≤ b ∧ o = 0) := by
  obtain ⟨a', c', e', h2, h3⟩ := SRow.of_own (fun x _ => henc x) (own_n henc hpos h) h
  injection e' with e1 _ e3
  subst e1; subst e3
  rcases h.2 with ⟨hv, _⟩ | ⟨g, cap', cur, hv, _⟩
  · injection hv with e1 e2 e3
    subst e1; subst e2; subst e3
    exact ⟨⟨h2, hok, fun _ => rfl⟩, fun b o e => by cases e⟩
  · injection hv with e1 e2 e3
    subst e1
    exact ⟨⟨h2, hok, fun e => by cases e⟩, fun b o e => ⟨h3 b o e, by injection e with e; injection e with _ e; exact e.symm⟩⟩
def SHd.own {α : Type} (x : SHd α) : Option Nat := (Value.slice x.a x.n x.c).ownBlock
structure OwnRows {α : Type} (enc : α → List Value) (size : Nat) (ok : α → Prop) (base : Nat) (th te : TypeId) (W : World) (a : Option Addr) (n c : Nat) (T : List (SHd α)) : Prop where
  row : W.ownsRow base th 1 (.slice a n c) n (T.flatMap encH)
  each : ∀ x ∈ T, W.ownsRow base te size (.slice x.a x.n x.c) x.n (x.l.flatMap enc)
  ok : ∀ x ∈ T, ∀ y ∈ x.l, ok y
  apart : ∀ (i j : Nat) (x y : SHd α), i ≠ j → T[i]? = some x → T[j]? = some y → ∀ k, x.own = some k → some k ≠ y.own
section
variable {α : Type} {enc : α → List Value} {size : Nat} {ok : α → Prop} {base : Nat} {th te : TypeId} {W V : World} {a : Option Addr} {n c : Nat} {T : List (SHd α)}
theorem OwnRows.stay (h : OwnRows enc size ok base th te W a n c T) {r : Option Nat} (hg : W.grownBy V r) (h1 : ∀ k, (Value.slice a n c).ownBlock = some k → some k ≠ r) (h2 : ∀ x ∈ T, ∀ k, x.own = some k → some k ≠ r) : OwnRows enc size ok base th te V a n c T :=
  ⟨own_stay h.row hg h1, fun x hx => own_stay (h.each x hx) hg (h2 x hx), h.ok, h.apart⟩
theorem OwnRows.keep (h : OwnRows enc size ok base th te W a n c T) (hb : Below W.heap.size W V) : OwnRows enc size ok base th te V a n c T :=
  h.stay (grown_by hb none) (fun _ _ e => by cases e) (fun _ _ _ _ e => by cases e)
theorem OwnRows.hlen (h : OwnRows enc size ok base th te W a n c T) : T.length = n := own_n (fun x => encH_len x) (by decide) h.row
theorem OwnRows.hrow (h : OwnRows enc size ok base th te W a n c T) (henc : ∀ x, (enc x).length = size) (hpos : 0 < size) : HRow enc size ok W a n c T ∧ (∀ b o, a = some ⟨b, o, none⟩ → base ≤ b ∧ o = 0) ∧ ∀ x ∈ T, ∀ b o, x.a = some ⟨b, o, none⟩ → base ≤ b ∧ o = 0 := by
  have h1 := LRow.of_own (ok := fun _ : SHd α => True) (fun x => encH_len x) (by decide) h.row (fun _ _ => trivial)
  exact ⟨⟨h1.1.row, fun x hx => (LRow.of_own henc hpos (h.each x hx) (h.ok x hx)).1, h1.1.hnil⟩, h1.2, fun x hx => (LRow.of_own henc hpos (h.each x hx) (h.ok x hx)).2⟩
theorem OwnRows.lt (h : OwnRows enc size ok base th te W a n c T) {x : SHd α} (hx : x ∈ T) {k : Nat} (hk : x.own = some k) : base ≤ k ∧ k < W.heap.size := (h.each x hx).lt k hk
end
theorem info_parts11 {t : TypeId} {z : Value} {s b : Nat} (h : (Tryz.prog.info? t).map (fun i => (i.zero, i.size, i.bytes)) = some (some z, s, b)) : ∃ i, Tryz.prog.info? t = some i ∧ i.zero = some z ∧ i.size = s ∧ i.bytes = b := by
  cases hi : Tryz.prog.info? t with
  | none => rw [hi] at h; simp at h
  | some i =>
    rw [hi] at h
    simp at h
    exact ⟨i, rfl, h.1, h.2.1, h.2.2⟩
def OwnP {α : Type} (enc : α → List Value) (size : Nat) (te : TypeId) (w : World) (L : List α) (e : Ending) (w' : World) : Prop := ∃ a c, e = .returned (.slice a L.length c) ∧ w'.ownsRow w.heap.size te size (.slice a L.length c) L.length (L.flatMap enc) ∧ Below w.heap.size w w'
theorem own_form11 {w : World} {base : Nat} {e : TypeId} {size : Nat} {v : Value} {n : Nat} {xs : List Value} (h : w.ownsRow base e size v n xs) : ∃ a c, v = .slice a n c := by
  rcases h.2 with ⟨rfl, h0⟩ | ⟨g, cap, cur, rfl, _⟩
  · exact ⟨none, 0, by rw [h0]⟩
  · exact ⟨_, _, rfl⟩
theorem own_p {α : Type} {enc : α → List Value} {size : Nat} {te : TypeId} {w w' : World} {L : List α} {v : Value} (h : w'.ownsRow w.heap.size te size v L.length (L.flatMap enc)) (hb : Below w.heap.size w w') : OwnP enc size te w L (.returned v) w' := by
  obtain ⟨a, c, rfl⟩ := own_form11 h
  exact ⟨a, c, rfl, h, hb⟩
end Go.Proofs.YtbkhngoehoiccaaGreat
namespace Go.Proofs.YtbkhngoehoiccaaGreat
open Go.RowKit
theorem find_ifRight {D : DeskD} {l s : List UInt8} : ifRight D (findZ2 D.defs l s) = if ifRight D (firstZ (isOwn l) D.defs) = -1 then ifRight D (firstZ (isIs l s) D.defs) else ifRight D (firstZ (isOwn l) D.defs) := by
  have h1 := (firstZ_lt (isOwn l) D.defs).1
  unfold ifRight findZ2
  cases rightK D with
  | false => rfl
  | true =>
    rw [if_pos rfl, if_pos rfl, if_pos rfl]
    by_cases h : firstZ (isOwn l) D.defs = -1
    · rw [if_pos h, if_neg (by omega)]
    · rw [if_neg h, if_pos (by omega)]
set_option maxHeartbeats 1000000 in
set_option maxRecDepth 100000 in
theorem deskfind_any (da : Option Addr) (dl dc : Nat) (wa : Option Addr) (wl wc : Nat) (nx : Int) (bz : Bool) (L : List DefD) (M : List WaitD) (l s : ByteArray) (w : World) (hd : DefRow w da dl dc L) (ht : WaitRow w wa wl wc M) :
    Calls Tryz.prog 74 #[deskV da dl dc wa wl wc nx bz, .string l, .string s] w fun e w' => e = .returned (.int .i64 (ifRight ⟨L, M, nx, bz⟩ (findZ2 L l.toList s.toList))) ∧ Below w.heap.size w w' := by
  have eg1 : ∀ args w, (callFunc 96 args).run Tryz.prog w = .ok (.enter 96 args) w := enters_of Tryz.func96 (by kernel_rfl) rfl
  have eg2 : ∀ args w, (callFunc 97 args).run Tryz.prog w = .ok (.enter 97 args) w := enters_of Tryz.func97 (by kernel_rfl) rfl
  have HO := Lib.hid (find_ifRight (D := ⟨L, M, nx, bz⟩) (l := l.toList) (s := s.toList))
  have DX := Lib.hid ((DBox.two (nx := nx) (bz := bz) hd ht (.cells #[.string l] 9)).keep (below_desk _ (.cells #[.string s] 9)))
  have hs1 : (w.alloc (deskB da dl dc wa wl wc nx bz)).heap.size = w.heap.size + 1 := by simp
  have hs2 : ((w.alloc (deskB da dl dc wa wl wc nx bz)).alloc (.cells #[.string l] 9)).heap.size = w.heap.size + 1 + 1 := by simp
  have HC1 : Hid ((((w.alloc (deskB da dl dc wa wl wc nx bz)).alloc (.cells #[.string l] 9)).alloc (.cells #[.string s] 9)).cell? ⟨w.heap.size + 1, 0, none⟩ = some (.string l)) := Lib.hid (by
    rw [← hs1]
    exact ((below_desk _ (.cells #[.string s] 9)).cell (p := ⟨(w.alloc (deskB da dl dc wa wl wc nx bz)).heap.size, 0, none⟩) (by simp)).trans (cell_new _ _ _))
  have HC2 : Hid ((((w.alloc (deskB da dl dc wa wl wc nx bz)).alloc (.cells #[.string l] 9)).alloc (.cells #[.string s] 9)).cell? ⟨w.heap.size + 1 + 1, 0, none⟩ = some (.string s)) := Lib.hid (by
    rw [← hs2]
    exact cell_new _ _ _)
  have hs3 : (((w.alloc (deskB da dl dc wa wl wc nx bz)).alloc (.cells #[.string l] 9)).alloc (.cells #[.string s] 9)).heap.size = w.heap.size + 1 + 1 + 1 := by simp
  obtain ⟨q1, hq1⟩ : ∃ q, ifRight ⟨L, M, nx, bz⟩ (firstZ (isOwn l.toList) L) = q := ⟨_, rfl⟩
  obtain ⟨q2, hq2⟩ : ∃ q, ifRight ⟨L, M, nx, bz⟩ (firstZ (isIs l.toList s.toList) L) = q := ⟨_, rfl⟩
  obtain ⟨V, hV⟩ : ∃ V, ((w.alloc (deskB da dl dc wa wl wc nx bz)).alloc (.cells #[.string l] 9)).alloc (.cells #[.string s] 9) = V := ⟨_, rfl⟩
  rw [hV] at HC1 HC2 hs3 DX
  have P1 : Hid (∀ U, Below V.heap.size V U → Calls Tryz.prog 95 #[deskV da dl dc wa wl wc nx bz, .func (.func 96) #[] #[.pointer (some ⟨w.heap.size + 1, 0, none⟩)]] U fun e w' => e = .returned (.int .i64 q1) ∧ Below U.heap.size U w') := Lib.hid (fun U hb => by
    have h := place_any 96 #[.pointer (some ⟨w.heap.size + 1, 0, none⟩)] (isOwn l.toList) eg1 da dl dc wa wl wc nx bz L M U (DX.out.keep hb).d (DX.out.keep hb).t ((pred_own l (w.heap.size + 1) V (by omega) HC1.out).later hb)
    rw [hq1] at h
    exact h)
  have P2 : Hid (∀ U, Below V.heap.size V U → Calls Tryz.prog 95 #[deskV da dl dc wa wl wc nx bz, .func (.func 97) #[] #[.pointer (some ⟨w.heap.size + 1 + 1, 0, none⟩), .pointer (some ⟨w.heap.size + 1, 0, none⟩)]] U fun e w' => e = .returned (.int .i64 q2) ∧ Below U.heap.size U w') := Lib.hid (fun U hb => by
    have h := place_any 97 #[.pointer (some ⟨w.heap.size + 1 + 1, 0, none⟩), .pointer (some ⟨w.heap.size + 1, 0, none⟩)] (isIs l.toList s.toList) eg2 da dl dc wa wl wc nx bz L M U (DX.out.keep hb).d (DX.out.keep hb).t ((pred_is l s (w.heap.size + 1 + 1) (w.heap.size + 1) V (by omega) HC2.out (by omega) HC1.out).later hb)
    rw [hq2] at h
    exact h)
  dsimp only at HO
  rw [hq1, hq2] at HO
  have HW := Lib.hid hV
  clear hq1 hq2 eg1 eg2 hd ht HC1 HC2 hV hs1 hs2
  go_enter Tryz.func74, Tryz.ntmps74
  go_upto_region 1 with fail
  rw [HW.out]
  have z0 := DX.out.c0
  have z1 := DX.out.c1
  have z2 := DX.out.c2
  have z3 := DX.out.c3
  clear HW hs3
  cases e1 : q1 == -1 with
  | false =>
    have HR : Hid (ifRight ⟨L, M, nx, bz⟩ (findZ2 L l.toList s.toList) = q1) := Lib.hid (by rw [HO.out, if_neg (beq_eq_false_iff_ne.1 e1)])
    go_wp2_with (go_at_call 95; (with_reducible refine (P1.out _ (Below.refl _ _)).mono ?_); rintro e w5 ⟨rfl, hb⟩)
    go_ret
    exact ⟨ret_int HR.out.symm, DX.out.below.trans (hb.mono DX.out.below.size)⟩
  | true =>
    have HR : Hid (ifRight ⟨L, M, nx, bz⟩ (findZ2 L l.toList s.toList) = q2) := Lib.hid (by rw [HO.out, if_pos (beq_iff_eq.1 e1)])
    go_wp2_with (first
      | (go_at_call 95; (with_reducible refine (P1.out _ (Below.refl _ _)).mono ?_); rintro e w5 ⟨rfl, hb⟩; have HV := Lib.hid hb; clear z0 z1 z2 z3 hb; have z0 := (DX.out.keep HV.out).c0; have z1 := (DX.out.keep HV.out).c1; have z2 := (DX.out.keep HV.out).c2; have z3 := (DX.out.keep HV.out).c3)
      | (go_at_call 95; (with_reducible refine (P2.out _ HV.out).mono ?_); rintro e w6 ⟨rfl, hb⟩))
    go_ret
    exact ⟨ret_int HR.out.symm, (DX.out.keep HV.out).below.trans (hb.mono (DX.out.keep HV.out).below.size)⟩
end Go.Proofs.YtbkhngoehoiccaaGreat
namespace Go.Proofs.YtbkhngoehoiccaaGreat
open Go.RowKit
def fateC (D : DeskD) (c : Core) : Int := if c.kind = 1 ∧ c.doc = 0 then ifRight D (findZ2 D.defs c.name.toList c.is.toList) else -1
end Go.Proofs.YtbkhngoehoiccaaGreat
