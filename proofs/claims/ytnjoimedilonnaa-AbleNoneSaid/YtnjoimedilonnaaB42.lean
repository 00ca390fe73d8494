/- Texts joined in build order: OwnerRightMath MoveWhy MoveAs MovePutMath MoveParts MovePut MoveEnds MoveInsert MoveRemove MoveChange MoveSet MoveSetFn MoveUnset MoveToggle MoveAttrMath OwnerBackMath AbleMath AbleRiseMath AbleShutMath OwnerFn OwnerAll. -/
import Derived.Test.YtnjoimedilonnaaB28
import Derived.Test.YtnjoimedilonnaaB31
import Derived.WalkKit
import Derived.LaidEql
import Derived.Stop.Asserts
import Derived.RowKitTokens
import Derived.Test.YtnjoimedilonnaaB32
import Derived.Test.YtnjoimedilonnaaB06
import Derived.Test.YtnjoimedilonnaaB41
import Derived.Test.YtnjoimedilonnaaB19
import Derived.Test.YtnjoimedilonnaaB24
import Derived.Test.YtnjoimedilonnaaB27
import Derived.Deep.RegionHeld3
import Derived.Deep.DeepCutAuto
namespace Go.Proofs.Ytnjoimedilonnaa
open Go.RowKit
end Go.Proofs.Ytnjoimedilonnaa
namespace Go.Proofs.Ytnjoimedilonnaa
open Go.RowKit Go.Extern.Stop Go.Stop Go.Extern
abbrev hdl (t : Nat) : Value := .pointer (some ⟨1, t, none⟩)
end Go.Proofs.Ytnjoimedilonnaa
namespace Go.Proofs.Ytnjoimedilonnaa
open Go.RowKit Go.Extern.Stop Go.Stop Go.Extern
end Go.Proofs.Ytnjoimedilonnaa
namespace Go.Proofs.Ytnjoimedilonnaa
open Go.RowKit
structure PutInv (m : Int) (F : List Core) (p : Nat) (l : List Int) (b : Int) : Prop where
  right : rightF m F = true
  lt : p < F.length
  kp : kindK F p ≠ 2
  once : l.Nodup
  ls : ∀ z ∈ l, ∃ q : Nat, z = q ∧ q < F.length ∧ (kindK F q = 1 ∨ kindK F q = 2)
  over : ∀ q : Nat, (q : Int) ∈ l → ¬ holdsT (parS F) q p
  root : kindK F p = 0 → (kidsK F p).length + l.length ≤ 1 ∧ ∀ k ∈ l, kindK F k = 1
  before : b = -1 ∨ (b ∈ kidsK F p ∧ b ∉ l)
section
variable {m : Int} {F G : List Core} {p : Nat} {l r : List Int} {b : Int}
theorem kidsK_edit {P : Nat → Core → Int} {K : Nat → Core → List Int} {D : Nat → Core → Int} (h : Edit F G P K D) {c : Core} (hc : F[p]? = some c) : kidsK G p = K p c := kidsK_get (h.at_ p c hc)
theorem PutInv.out (h : PutInv m F p l b) {q : Nat} (hq : (q : Int) ∈ l) (hp : parentK F q ≠ -1) : PutInv m (mvOut F q) p l b := by
  obtain ⟨q', e, hql, _⟩ := h.ls _ hq
  obtain rfl : q = q' := by omega
  have hx : F[q]? = some F[q] := List.getElem?_eq_getElem hql
  rw [parentK_at hx] at hp
  obtain ⟨a, ha1, ha2, ho⟩ := mvOut_out h.right hx hp
  obtain ⟨cp, hc⟩ : ∃ cp, F[p]? = some cp := ⟨_, List.getElem?_eq_getElem h.lt⟩
  have hk : kidsK (mvOut F q) p = if p = a then cp.kids.filter (fun z => z != (q : Int)) else cp.kids := kidsK_edit ho.ed hc
  have hk0 : kidsK F p = cp.kids := kidsK_get hc
  refine ⟨ho.rightG, by rw [ho.ed.len]; exact h.lt, by rw [ho.ed.kindK]; exact h.kp, h.once, fun z hz => ?_, fun t ht hh => ?_, fun e => ?_, ?_⟩
  · obtain ⟨t, h1, h2, h3⟩ := h.ls z hz
    exact ⟨t, h1, by rw [ho.ed.len]; exact h2, by rw [ho.ed.kindK]; exact h3⟩
  · obtain ⟨t', e, htl, _⟩ := h.ls _ ht
    obtain rfl : t = t' := by omega
    exact h.over t ht ((ho.over htl h.lt).1 hh).1
  · rw [ho.ed.kindK] at e
    obtain ⟨h1, h2⟩ := h.root e
    refine ⟨?_, fun k hk => by rw [ho.ed.kindK]; exact h2 k hk⟩
    rw [hk]
    rw [hk0] at h1
    split
    · exact Nat.le_trans (Nat.add_le_add_right (List.length_filter_le _ _) _) h1
    · exact h1
  · rcases h.before with e | ⟨h1, h2⟩
    · exact .inl e
    · refine .inr ⟨?_, h2⟩
      rw [hk]
      rw [hk0] at h1
      split
      · rw [List.mem_filter]
        exact ⟨h1, bne_iff_ne.2 (fun e => h2 (by rw [e]; exact hq))⟩
      · exact h1
theorem parS_same {F G : List Core} (h : ∀ j : Nat, nextUp G (j : Int) = nextUp F j) : parS G = parS F := by
  funext j
  unfold parS
  rw [h j]
theorem PutInv.doc (h : PutInv m F p l b) {q : Nat} (hq : (q : Int) ∈ l) (hp : parentK F q = -1) {d : Int} (hd : ∃ c, getC F d = some c ∧ c.kind = 0) : PutInv m (mvDoc F q d) p l b := by
  obtain ⟨q', e, hql, hqk⟩ := h.ls _ hq
  obtain rfl : q = q' := by omega
  have T := taken_doc h.right hql hp hqk hd
  obtain ⟨cp, hc⟩ : ∃ cp, F[p]? = some cp := ⟨_, List.getElem?_eq_getElem h.lt⟩
  have hk : kidsK (mvDoc F q d) p = kidsK F p := by rw [kidsK_edit T.ed hc, kidsK_get hc]
  have hpar := parS_same T.next
  exact ⟨T.rightG, by rw [T.ed.len]; exact h.lt, by rw [T.ed.kindK]; exact h.kp, h.once, fun z hz => by
    obtain ⟨t, h1, h2, h3⟩ := h.ls z hz
    exact ⟨t, h1, by rw [T.ed.len]; exact h2, by rw [T.ed.kindK]; exact h3⟩, fun t ht hh => h.over t ht (by rw [hpar] at hh; exact hh), fun e => by
    rw [T.ed.kindK] at e
    rw [hk]
    obtain ⟨h1, h2⟩ := h.root e
    exact ⟨h1, fun k hk => by rw [T.ed.kindK]; exact h2 k hk⟩, by rw [hk]; exact h.before⟩
theorem PutInv.put {q : Nat} (h : PutInv m F p ((q : Int) :: r) b) (hp : parentK F q = -1) (hd : docK F q = docK F p) : PutInv m (mvIn F q p b) p r b := by
  have hq : (q : Int) ∈ (q : Int) :: r := List.mem_cons_self
  obtain ⟨q', e, hql, hqk⟩ := h.ls _ hq
  obtain rfl : q = q' := by omega
  have hx : F[q]? = some F[q] := List.getElem?_eq_getElem hql
  obtain ⟨cp, hc⟩ : ∃ cp, F[p]? = some cp := ⟨_, List.getElem?_eq_getElem h.lt⟩
  have hov := h.over q hq
  have hqp : q ≠ p := fun e => hov (by rw [e]; exact holds_refl p)
  have hk0 : kidsK F p = cp.kids := kidsK_get hc
  have notin : ∀ (j : Nat) (c : Core), F[j]? = some c → (q : Int) ∉ c.kids := fun j c hj hm => by
    obtain ⟨c', h1, _, h3, _⟩ := (right_node h.right hj).kids _ hm
    rw [getC_nat, hx] at h1
    rw [parentK_at hx] at hp
    rw [← Option.some.inj h1, hp] at h3
    omega
  have hb : b = -1 ∨ b ∈ cp.kids := by
    rcases h.before with e | ⟨h1, _⟩
    · exact .inl e
    · rw [hk0] at h1
      exact .inr h1
  have hfil : ∀ (j : Nat) (c : Core), F[j]? = some c → c.kids.filter (fun z => !([(q : Int)] : List Int).contains z) = c.kids := fun j c hj => List.filter_eq_self.2 (fun z hz => by
    have : z ≠ (q : Int) := fun e => notin j c hj (by rw [← e]; exact hz)
    simpa using this)
  have hedi := edF_edit F (fun j c => if j = q then (p : Int) else c.parent) (fun j c => if j = p then insB c.kids b q else c.kids) (fun _ c => c.doc)
  have hIn : PutIn m F (mvIn F q p b) [(q : Int)] p cp (cp.kids.take (insAt cp.kids b)) (cp.kids.drop (insAt cp.kids b)) (fun j => decide ((j : Int) ∈ allI F q)) := by
    refine ⟨h.right, hc, by rw [← kindK_at hc]; exact h.kp, by simp, fun z hz => ?_, fun t ht => ?_, ?_, fun e => ?_, fun j hj => ?_, hedi.cong (fun j c hj => ⟨?_, ?_, ?_⟩)⟩
    · rw [List.mem_singleton] at hz
      exact ⟨q, F[q], hz, hx, by rw [← kindK_at hx]; exact hqk⟩
    · have : t = q := Int.ofNat_inj.1 (by simpa using ht)
      rw [this]
      exact hov
    · rw [List.take_append_drop]
      exact (hfil p _ hc).symm
    · have h1 := h.root (by rw [kindK_at hc]; exact e)
      rw [hk0, List.length_cons] at h1
      have hnil : cp.kids = [] := List.eq_nil_of_length_eq_zero (by omega)
      rw [hnil]
      simp only [List.take_nil, List.drop_nil, List.nil_append, List.append_nil, List.length_singleton]
      exact ⟨Nat.le_refl _, fun k hk => by rw [List.mem_singleton] at hk; rw [hk]; exact h1.2 _ hq⟩
    · rw [decide_eq_true_iff, mem_all h.right hql hj]
      constructor
      · exact fun hh => ⟨q, by simp, hh⟩
      · rintro ⟨t, ht, hh⟩
        have : t = q := Int.ofNat_inj.1 (by simpa using ht)
        rw [← this]
        exact hh
    · by_cases e : j = q
      · subst e; simp
      · rw [if_neg e, if_neg (by simpa using (fun h2 => e (by omega) : (j : Int) ≠ (q : Int)))]
    · by_cases e : j = p
      · subst e
        rw [hc] at hj
        rw [if_pos rfl, if_pos rfl, ← Option.some.inj hj, ← insB_eq]
        simp
      · rw [if_neg e, if_neg e, hfil j c hj]
    · by_cases e : (j : Int) ∈ allI F q
      · have hjl := (List.getElem?_eq_some_iff.1 hj).1
        have h1 := doc_all h.right hql e hjl
        rw [hd, docK_at hj, docK_at hc] at h1
        simp only [decide_eq_true e, if_true]
        exact h1
      · simp only [decide_eq_false e, Bool.false_eq_true, if_false]
  have hed : Edit F (mvIn F q p b) (fun j c => if j = q then (p : Int) else c.parent) (fun j c => if j = p then insB c.kids b q else c.kids) (fun _ c => c.doc) := hedi
  have hkG : kidsK (mvIn F q p b) p = insB cp.kids b q := by rw [kidsK_edit hed hc]; exact if_pos rfl
  have hup : ∀ (k c a : Nat), c < F.length → ¬ holdsT (parS F) q c → upN (parS (mvIn F q p b)) k c = some a → upN (parS F) k c = some a := by
    intro k
    induction k with
    | zero => exact fun c a _ _ hu => hu
    | succ k ih =>
      intro c a hcl hn hu
      unfold upN at hu ⊢
      have hcq : c ≠ q := fun e => hn (by rw [e]; exact holds_refl q)
      have hpc : parS (mvIn F q p b) c = parS F c := by
        unfold parS
        have h1 := hIn.next hcl
        rw [if_neg (by simpa using (fun h2 => hcq (by omega) : (c : Int) ≠ (q : Int)))] at h1
        rw [h1]
      rw [hpc] at hu
      cases hq2 : parS F c with
      | none => rw [hq2] at hu; cases hu
      | some t =>
        rw [hq2] at hu
        exact ih t a (parS_next h.right hcl hq2).2 (fun hh => hn (holds_trans hh (holds_par hq2))) hu
  refine ⟨hIn.rightG, by rw [hed.len]; exact h.lt, by rw [hed.kindK]; exact h.kp, (List.nodup_cons.1 h.once).2, fun z hz => ?_, fun t ht hh => ?_, fun e => ?_, ?_⟩
  · obtain ⟨t, h1, h2, h3⟩ := h.ls z (List.mem_cons_of_mem _ hz)
    exact ⟨t, h1, by rw [hed.len]; exact h2, by rw [hed.kindK]; exact h3⟩
  · obtain ⟨k, hk⟩ := hh
    exact h.over t (List.mem_cons_of_mem _ ht) ⟨k, hup k p t h.lt hov hk⟩
  · rw [hed.kindK] at e
    obtain ⟨h1, h2⟩ := h.root e
    refine ⟨?_, fun k hk => by rw [hed.kindK]; exact h2 k (List.mem_cons_of_mem _ hk)⟩
    rw [hkG, ← insB_eq]
    rw [hk0, List.length_cons] at h1
    simp only [List.length_append, List.length_cons, List.length_take, List.length_drop]
    omega
  · rcases h.before with e | ⟨h1, h2⟩
    · exact .inl e
    · refine .inr ⟨?_, fun hh => h2 (List.mem_cons_of_mem _ hh)⟩
      rw [hkG, ← insB_eq]
      rw [hk0, ← List.take_append_drop (insAt cp.kids b) cp.kids] at h1
      rcases List.mem_append.1 h1 with h1 | h1
      · exact List.mem_append.2 (.inl h1)
      · exact List.mem_append.2 (.inr (List.mem_cons_of_mem _ h1))
end
end Go.Proofs.Ytnjoimedilonnaa
namespace Go.Proofs.Ytnjoimedilonnaa
open Go.RowKit
end Go.Proofs.Ytnjoimedilonnaa
namespace Go.Proofs.Ytnjoimedilonnaa
open Go.RowKit
section
variable {m : Int}
end
section
variable {ρ : Nat → Nat} {pw g cap len : Nat} {m : Int} {M : List NodeD} {v : Value} {N : List NoteD}
end
end Go.Proofs.Ytnjoimedilonnaa
namespace Go.Proofs.Ytnjoimedilonnaa
open Go.RowKit
structure Held (w w' : World) (pw wb : Nat) (a2 : Option Addr) (len cap2 : Nat) (m : Int) (M : List NodeD) (F : List Core) : Prop where
  row : NodeRow w' a2 len cap2 M
  core : coreL M = F
  c0 : w'.cell? ⟨pw, 0, none⟩ = some (.slice a2 len cap2)
  c1 : w'.cell? ⟨pw, 1, none⟩ = some (.int .i64 m)
  c2 : w'.cell? ⟨pw, 2, none⟩ = some (.slice none 0 0)
  lt : pw < w'.heap.size
  below : Below w.heap.size w w'
  new : ∀ x ∈ M, newLists w.heap.size x
  rlo : ∀ b off, a2 = some ⟨b, off, none⟩ → w.heap.size ≤ b
  wlt : wb < w'.heap.size
  wc : w'.cell? ⟨wb, 0, none⟩ = some (ptrV pw)
  wk : 0 < len → ∃ g ρ, a2 = some ⟨g, 0, none⟩ ∧ Wk ρ w' pw g cap2 len m M (.slice none 0 0) [] ∧ (∀ k, k < w.heap.size → ρ k = 0) ∧ ρ wb = 0
theorem Held.keep {w w' w2 : World} {pw wb : Nat} {a2 : Option Addr} {len cap2 : Nat} {m : Int} {M : List NodeD} {F : List Core} (h : Held w w' pw wb a2 len cap2 m M F) (hb : Below w'.heap.size w' w2) : Held w w2 pw wb a2 len cap2 m M F :=
  ⟨h.row.below hb, h.core, (hb.cell (p := ⟨pw, 0, none⟩) h.lt).trans h.c0, (hb.cell (p := ⟨pw, 1, none⟩) h.lt).trans h.c1, (hb.cell (p := ⟨pw, 2, none⟩) h.lt).trans h.c2, Nat.lt_of_lt_of_le h.lt hb.size, h.below.trans (hb.mono h.below.size), h.new, h.rlo, Nat.lt_of_lt_of_le h.wlt hb.size, (hb.cell (p := ⟨wb, 0, none⟩) h.wlt).trans h.wc, fun h0 => by
    obtain ⟨g, ρ, h1, h2, h3⟩ := h.wk h0
    exact ⟨g, ρ, h1, h2.keep hb, h3⟩⟩
end Go.Proofs.Ytnjoimedilonnaa
namespace Go.Proofs.Ytnjoimedilonnaa
open Go.RowKit
structure NoteRow (w : World) (a : Option Addr) (len cap : Nat) (N : List NoteD) : Prop where
  row : SRow encO 9 w a len cap N
  ok : ∀ x ∈ N, NoteOk x
  hnil : a = none → cap = 0
theorem NoteRow.below {w w' : World} {a : Option Addr} {len cap : Nat} {N : List NoteD} (h : NoteRow w a len cap N) (hb : Below w.heap.size w w') : NoteRow w' a len cap N := ⟨h.row.below hb, h.ok, h.hnil⟩
theorem NoteRow.nil (w : World) : NoteRow w none 0 0 [] := ⟨SRow.nil, (fun x hx => by cases hx), fun _ => rfl⟩
def MvNew (B : Nat) (a va : Option Addr) (M : List NodeD) : Prop := ∀ k, k < B → (∀ b off, a = some ⟨b, off, none⟩ → b ≠ k) ∧ (∀ x ∈ M, NodeAway k x) ∧ ∀ b off, va = some ⟨b, off, none⟩ → b ≠ k
theorem MvNew.mono {B C : Nat} {a va : Option Addr} {M : List NodeD} (h : MvNew B a va M) (hc : C ≤ B) : MvNew C a va M := fun k hk => h k (Nat.lt_of_lt_of_le hk hc)
section
variable {ρ : Nat → Nat} {W : World} {pw g cap len : Nat} {m : Int} {M : List NodeD} {v : Value} {N : List NoteD}
theorem Wk.news {B : Nat} {va : Option Addr} {vl vc : Nat} (h : Wk ρ W pw g cap len m M (.slice va vl vc) N) (h0 : ∀ k, k < B → ρ k = 0) : MvNew B (some ⟨g, 0, none⟩) va M := by
  refine fun k hk => ⟨fun b off e e2 => ?_, fun x hx => ⟨fun b off e hp e2 => ?_, fun b off e hp e2 => ?_⟩, fun b off e e2 => ?_⟩
  · injection e with e
    injection e with e3
    have h1 := h0 k hk
    rw [← e2, ← e3, h.grole] at h1
    cases h1
  · obtain ⟨g0, h1, h2⟩ := (h.arole x hx b off e hp).2
    exact h1 (h0 g0 (by omega))
  · obtain ⟨i, hi⟩ := List.getElem?_of_mem hx
    have h1 := h.kown i x hi
    obtain ⟨g2, c2, h2⟩ := own_some h1 hp
    have h3 := h.krole i x g2 hi (by rw [h2]; rfl)
    injection h2 with h4 _ _
    rw [e] at h4
    injection h4 with h4
    injection h4 with h5
    have h6 := h0 k hk
    rw [← e2, h5, h3] at h6
    omega
  · rcases h.nown.2 with ⟨hv, _⟩ | ⟨g2, c2, cur, hv, _⟩
    · injection hv with h1
      rw [e] at h1
      cases h1
    · have h3 := h.nrole g2 (by rw [hv]; rfl)
      injection hv with h4 _ _
      rw [e] at h4
      injection h4 with h4
      injection h4 with h5
      have h6 := h0 k hk
      rw [← e2, h5, h3] at h6
      cases h6
end
theorem stored2 {W : World} {b : Nat} {x y : Value} (h : Box2 W b x y) (u v : Value) : ((W.setCell ⟨b, 0, none⟩ u).setCell ⟨b, 1, none⟩ v).cell? ⟨b, 0, none⟩ = some u ∧ ((W.setCell ⟨b, 0, none⟩ u).setCell ⟨b, 1, none⟩ v).cell? ⟨b, 1, none⟩ = some v :=
  ⟨(World.cell?_setCell_other _ _ _ _ (fun e => by injection e with _ e; omega)).trans (World.cell?_setCell_same _ _ _ h.c0), World.cell?_setCell_same _ _ _ ((World.cell?_setCell_other _ _ _ _ (fun e => by injection e with _ e; omega)).trans h.c1)⟩
structure Two (w W : World) (a : Option Addr) (len cap : Nat) (m : Int) (L : List NodeD) : Prop where
  bx : Box w W w.heap.size a len cap m L (coreL L)
  rb : Box2 W (w.heap.size + 1) (.slice none 0 0) (.int .i64 0)
theorem Two.start {w : World} {a : Option Addr} {len cap : Nat} {m : Int} {L : List NodeD} (h : NodeRow w a len cap L) : Two w ((w.alloc (forB a len cap m)).alloc zeroFB) a len cap m L :=
  ⟨(Box.start h).keep (below_box _ _), Box2.newAt (by simp)⟩
theorem Two.keep {w W W2 : World} {a : Option Addr} {len cap : Nat} {m : Int} {L : List NodeD} (h : Two w W a len cap m L) (hb : Below W.heap.size W W2) : Two w W2 a len cap m L := ⟨h.bx.keep hb, h.rb.keep hb⟩
end Go.Proofs.Ytnjoimedilonnaa
namespace Go.Proofs.Ytnjoimedilonnaa
open Go.RowKit
end Go.Proofs.Ytnjoimedilonnaa
namespace Go.Proofs.Ytnjoimedilonnaa
open Go.RowKit
section
variable {ρ : Nat → Nat} {pw g cap len : Nat} {m : Int} {M : List NodeD} {v : Value} {N : List NoteD}
end
end Go.Proofs.Ytnjoimedilonnaa
namespace Go.Proofs.Ytnjoimedilonnaa
open Go.RowKit
end Go.Proofs.Ytnjoimedilonnaa
namespace Go.Proofs.Ytnjoimedilonnaa
open Go.RowKit
end Go.Proofs.Ytnjoimedilonnaa
namespace Go.Proofs.Ytnjoimedilonnaa
open Go.RowKit
end Go.Proofs.Ytnjoimedilonnaa
namespace Go.Proofs.Ytnjoimedilonnaa
open Go.RowKit
end Go.Proofs.Ytnjoimedilonnaa
namespace Go.Proofs.Ytnjoimedilonnaa
open Go.RowKit
structure Worn (c d : Core) : Prop where
  kind : d.kind = c.kind
  parent : d.parent = c.parent
  kids : d.kids = c.kids
  host : d.host = c.host
  under : d.under = c.under
  doc : d.doc = c.doc
theorem Worn.refl (c : Core) : Worn c c := ⟨rfl, rfl, rfl, rfl, rfl, rfl⟩
end Go.Proofs.Ytnjoimedilonnaa
namespace Go.Proofs.Ytnjoimedilonnaa
open Go.RowKit
end Go.Proofs.Ytnjoimedilonnaa
namespace Go.Proofs.Ytnjoimedilonnaa
open Go.RowKit
def disT : List UInt8 := [100, 105, 115, 97, 98, 108, 101, 100]
def fsetT : List UInt8 := [102, 105, 101, 108, 100, 115, 101, 116]
def legT : List UInt8 := [108, 101, 103, 101, 110, 100]
def nameK (F : List Core) (k : Int) : List UInt8 := match getC F k with | some x => x.name.toList | none => []
def fsetB (F : List Core) (i : Nat) : Bool := nameK F i == fsetT
def disB (F : List Core) (i : Nat) : Bool := match F[i]? with | some x => hasA x.attrs disT | none => false
def kidsZ (F : List Core) (i : Nat) : List Int := match F[i]? with | some x => x.kids | none => []
def legF (F : List Core) (i : Nat) : Int := match (kidsZ F i).find? (fun k => nameK F k == legT) with | some k => k | none => -1
def barsF (F : List Core) (p i : Nat) : Bool := fsetB F p && disB F p && decide (p ≠ i) && holdsF F p i && (decide (legF F p = -1) || !holdsF F (legF F p).toNat i)
def barF (F : List Core) (i : Nat) : Bool := decide (kindK F i = 1) && (disB F i || (List.range F.length).any (fun p => barsF F p i))
def barO (m : Int) (F : List Core) (n : Int) : Bool := thereF m F n && barF F n.toNat
def legO (m : Int) (F : List Core) (n : Int) : Int := if thereF m F n then legF F n.toNat else -1
def barL (F : List Core) : List Int := ((List.range F.length).filter (barF F)).map Int.ofNat
def allB (m : Int) (F : List Core) : List Int := if rightF m F then barL F else []
theorem disB_at {F : List Core} {i : Nat} {x : Core} (h : F[i]? = some x) : disB F i = hasA x.attrs disT := by unfold disB; rw [h]
theorem barO_nat {m : Int} {F : List Core} (h : rightF m F = true) {n : Nat} (hn : n < F.length) : barO m F n = barF F n := by unfold barO; rw [thereF_of h hn, Bool.true_and, Int.toNat_natCast]
theorem legO_nat {m : Int} {F : List Core} (h : rightF m F = true) {n : Nat} (hn : n < F.length) : legO m F n = legF F n := by unfold legO; rw [thereF_of h hn, if_pos rfl, Int.toNat_natCast]
theorem holdsF_iff {m : Int} {F : List Core} (h : rightF m F = true) {a b : Nat} (ha : a < F.length) (hb : b < F.length) : holdsF F a b = true ↔ holdsT (parF F) a b := by
  rw [← holdsZ_iff h ha hb]
  unfold holdsZ
  rw [thereF_of h ha, thereF_of h hb, Int.toNat_natCast, Int.toNat_natCast]
  rfl
theorem holdsZ_nat {m : Int} {F : List Core} (h : rightF m F = true) {a b : Nat} (ha : a < F.length) (hb : b < F.length) : holdsZ m F a b = holdsF F a b := by
  rw [Bool.eq_iff_iff, holdsZ_iff h ha hb, holdsF_iff h ha hb]
theorem leg_is {m : Int} {F : List Core} (h : rightF m F = true) {p : Nat} (hp : p < F.length) : legF F p = -1 ∨ ∃ k : Nat, legF F p = k ∧ k < F.length ∧ parF F k = some p ∧ nameK F k = legT := by
  unfold legF
  cases hf : (kidsZ F p).find? (fun k => nameK F k == legT) with
  | none => exact .inl rfl
  | some z =>
    have hx : F[p]? = some F[p] := List.getElem?_eq_getElem hp
    have hm := List.mem_of_find?_eq_some hf
    have hn : (nameK F z == legT) = true := List.find?_some (p := fun k => nameK F k == legT) hf
    unfold kidsZ at hm
    rw [hx] at hm
    obtain ⟨u, h1, h2, h3, _⟩ := (right_node h hx).kids z hm
    obtain ⟨g1, g2, g3⟩ := getC_some h1
    refine .inr ⟨z.toNat, by show z = _; omega, g2, ?_, by rw [show ((z.toNat : Nat) : Int) = z by omega]; exact beq_iff_eq.1 hn⟩
    unfold parF
    rw [g3]
    dsimp only
    rw [h3, if_neg (by omega), Int.toNat_natCast]
theorem none_is {F : List Core} (h : ∀ i, i < F.length → disB F i = false) : barL F = [] := by
  unfold barL
  rw [List.map_eq_nil_iff, List.filter_eq_nil_iff]
  intro i hi hb
  rw [List.mem_range] at hi
  unfold barF at hb
  rw [h i hi, Bool.false_or, Bool.and_eq_true, List.any_eq_true] at hb
  obtain ⟨p, hp, hq⟩ := hb.2
  unfold barsF at hq
  rw [h p (List.mem_range.1 hp)] at hq
  simp at hq
theorem bar_kind {F : List Core} {i : Nat} (h : barF F i = true) : kindK F (i : Int) = 1 := by
  unfold barF at h
  rw [Bool.and_eq_true, decide_eq_true_eq] at h
  exact h.1
theorem bar_own {F : List Core} {i : Nat} (h : disB F i = true) (hk : kindK F (i : Int) = 1) : barF F i = true := by
  unfold barF
  rw [h, hk]
  rfl
theorem bar_other {F : List Core} {i : Nat} (h : disB F i = false) (hb : barF F i = true) : ∃ p, p < F.length ∧ fsetB F p = true ∧ disB F p = true ∧ holdsF F p i = true := by
  unfold barF at hb
  rw [h, Bool.false_or, Bool.and_eq_true, List.any_eq_true] at hb
  obtain ⟨p, hp, hq⟩ := hb.2
  unfold barsF at hq
  simp only [Bool.and_eq_true] at hq
  exact ⟨p, List.mem_range.1 hp, hq.1.1.1.1, hq.1.1.1.2, hq.1.2⟩
end Go.Proofs.Ytnjoimedilonnaa
namespace Go.Proofs.Ytnjoimedilonnaa
open Go.RowKit
end Go.Proofs.Ytnjoimedilonnaa
namespace Go.Proofs.Ytnjoimedilonnaa
open Go.RowKit
def shutB (F : List Core) (i : Nat) : Bool := (List.range F.length).any (fun p => barsF F p i)
theorem barF_shut (F : List Core) (i : Nat) : barF F i = (decide (kindK F i = 1) && (disB F i || shutB F i)) := rfl
theorem bars_iff {F : List Core} {p i : Nat} : barsF F p i = true ↔ fsetB F p = true ∧ disB F p = true ∧ p ≠ i ∧ holdsF F p i = true ∧ (legF F p = -1 ∨ holdsF F (legF F p).toNat i = false) := by
  unfold barsF
  simp only [Bool.and_eq_true, Bool.or_eq_true, decide_eq_true_eq, Bool.not_eq_true']
  constructor
  · rintro ⟨⟨⟨⟨h1, h2⟩, h3⟩, h4⟩, h5⟩; exact ⟨h1, h2, h3, h4, h5⟩
  · rintro ⟨h1, h2, h3, h4, h5⟩; exact ⟨⟨⟨⟨h1, h2⟩, h3⟩, h4⟩, h5⟩
theorem shut_iff {F : List Core} {i : Nat} : shutB F i = true ↔ ∃ p, p < F.length ∧ barsF F p i = true := by
  unfold shutB
  rw [List.any_eq_true]
  constructor
  · rintro ⟨p, h1, h2⟩; exact ⟨p, List.mem_range.1 h1, h2⟩
  · rintro ⟨p, h1, h2⟩; exact ⟨p, List.mem_range.2 h1, h2⟩
theorem shut_top {m : Int} {F : List Core} (h : rightF m F = true) {n : Nat} (hn : n < F.length) (hp : parF F n = none) : shutB F n = false := by
  cases hs : shutB F n with
  | false => rfl
  | true =>
    obtain ⟨p, h1, h2⟩ := shut_iff.1 hs
    obtain ⟨_, _, h3, h4, _⟩ := bars_iff.1 h2
    rcases holds_up ((holdsF_iff h h1 hn).1 h4) with e | ⟨q, e, _⟩
    · exact absurd e h3
    · rw [hp] at e; cases e
theorem shut_step {m : Int} {F : List Core} (h : rightF m F = true) {n k : Nat} (hk : k < F.length) (hp : parF F k = some n) : shutB F k = (shutB F n || (fsetB F n && disB F n && decide ((k : Int) ≠ legF F n))) := by
  have T := tree_of_right h
  obtain ⟨hn, hrk⟩ := par_lt h hk hp
  have hnk : n ≠ k := fun e => by subst e; omega
  have hup : ∀ q, holdsT (parF F) q n → holdsT (parF F) q k := fun q hq => holds_trans hq (holds_par hp)
  have hdn : ∀ q, holdsT (parF F) q k → q = k ∨ holdsT (parF F) q n := fun q hq => by
    rcases holds_up hq with e | ⟨r, e, h2⟩
    · exact .inl e
    · rw [hp] at e
      injection e with e
      rw [e]
      exact .inr h2
  have hkn : ¬ holdsT (parF F) k n := fun h1 => hnk (T.holds_anti hn hk (holds_par hp) h1)
  have fls : ∀ {a b : Nat}, a < F.length → b < F.length → (holdsF F a b = false ↔ ¬ holdsT (parF F) a b) := fun ha hb => by
    rw [← holdsF_iff h ha hb]; simp
  rw [Bool.eq_iff_iff, Bool.or_eq_true, shut_iff, shut_iff]
  simp only [Bool.and_eq_true, decide_eq_true_eq]
  constructor
  · rintro ⟨p, hpl, hb⟩
    obtain ⟨h1, h2, h3, h4, h5⟩ := bars_iff.1 hb
    have hh := (hdn p ((holdsF_iff h hpl hk).1 h4)).resolve_left h3
    by_cases e : p = n
    · subst e
      refine .inr ⟨⟨h1, h2⟩, fun e => ?_⟩
      rcases h5 with h5 | h5
      · omega
      · rw [← e, Int.toNat_natCast] at h5
        exact (fls hk hk).1 h5 (holds_refl k)
    · refine .inl ⟨p, hpl, bars_iff.2 ⟨h1, h2, e, (holdsF_iff h hpl hn).2 hh, ?_⟩⟩
      rcases leg_is h hpl with h6 | ⟨l, h6, h7, _, _⟩
      · exact .inl h6
      · rw [h6, Int.toNat_natCast] at h5 ⊢
        rcases h5 with h5 | h5
        · omega
        · exact .inr ((fls h7 hn).2 (fun h8 => (fls h7 hk).1 h5 (hup l h8)))
  · rintro (⟨p, hpl, hb⟩ | ⟨⟨h1, h2⟩, h3⟩)
    · obtain ⟨h1, h2, h3, h4, h5⟩ := bars_iff.1 hb
      have hh := (holdsF_iff h hpl hn).1 h4
      have hpk : p ≠ k := fun e => by subst e; exact hkn hh
      refine ⟨p, hpl, bars_iff.2 ⟨h1, h2, hpk, (holdsF_iff h hpl hk).2 (hup p hh), ?_⟩⟩
      rcases leg_is h hpl with h6 | ⟨l, h6, h7, h8, _⟩
      · exact .inl h6
      · rw [h6, Int.toNat_natCast] at h5 ⊢
        rcases h5 with h5 | h5
        · omega
        · refine .inr ((fls h7 hk).2 (fun h9 => ?_))
          rcases hdn l h9 with e | h10
          · subst e
            rw [hp] at h8
            injection h8 with h8
            exact h3 h8.symm
          · exact (fls h7 hn).1 h5 h10
    · refine ⟨n, hn, bars_iff.2 ⟨h1, h2, hnk, (holdsF_iff h hn hk).2 (holds_par hp), ?_⟩⟩
      rcases leg_is h hn with h6 | ⟨l, h6, h7, h8, _⟩
      · exact .inl h6
      · rw [h6, Int.toNat_natCast]
        refine .inr ((fls h7 hk).2 (fun h9 => ?_))
        rcases hdn l h9 with e | h10
        · exact h3 (by rw [h6, e])
        · have e := T.holds_anti hn h7 (holds_par h8) h10
          subst e
          have := (par_lt h h7 h8).2
          omega
def parIn (F : List Core) (t : List Nat) (i : Nat) : Bool := match parF F i with | some p => decide (p ∈ t) | none => false
theorem parIn_iff {F : List Core} {t : List Nat} {i : Nat} : parIn F t i = true ↔ ∃ p, parF F i = some p ∧ p ∈ t := by
  unfold parIn
  cases hp : parF F i with
  | none => simp
  | some p => simp
theorem kid_in {m : Int} {F : List Core} (h : rightF m F = true) {n : Nat} {x : Core} (hx : F[n]? = some x) {i : Nat} (hi : i < F.length) : (i : Int) ∈ x.kids ↔ parF F i = some n := by
  have T := tree_of_right h
  have hkf : kidsF F n = x.kids.map Int.toNat := by unfold kidsF; rw [hx]
  constructor
  · intro hm
    exact T.kid_par n i (by rw [hkf]; exact List.mem_map.2 ⟨i, hm, Int.toNat_natCast i⟩)
  · intro hp
    have := (T.par_kid n i hi hp).2
    rw [hkf] at this
    obtain ⟨z, hz, e⟩ := List.mem_map.1 this
    obtain ⟨u, h1, _⟩ := (right_node h hx).kids z hz
    have h0 := (getC_some h1).1
    have : z = (i : Int) := by omega
    rw [← this]
    exact hz
theorem tree_ahead {m : Int} {F : List Core} (h : rightF m F = true) {r k n : Nat} (hr : r < F.length) (hk : (ordF F r)[k]? = some n) : n = r ∨ parIn F ((ordF F r).take k) n = true := by
  have T := tree_of_right h
  cases k with
  | zero =>
    obtain ⟨rr, hrr⟩ := ordN_head (kids := kidsF F) (F.length + 1) r
    unfold ordF at hk
    rw [hrr] at hk
    exact .inl (by simpa using hk.symm)
  | succ k =>
    obtain ⟨j, p, hj, hp, hjp, _⟩ := T.ord_between (F.length + 1) r hr (by omega) (k + 1) n (by omega) hk
    refine .inr (parIn_iff.2 ⟨p, hp, ?_⟩)
    refine List.mem_of_getElem? (i := j) ?_
    rw [List.getElem?_take, if_pos hj]
    exact hjp
theorem parIn_step {F : List Core} {t : List Nat} {k n : Nat} (hk : t[k]? = some n) (i : Nat) : parIn F (t.take (k + 1)) i = (parIn F (t.take k) i || decide (parF F i = some n)) := by
  have hm : ∀ x, x ∈ t.take (k + 1) ↔ x ∈ t.take k ∨ x = n := fun x => by
    rw [List.take_add_one, hk]
    simp
  unfold parIn
  cases hp : parF F i with
  | none => simp
  | some p =>
    rw [Bool.eq_iff_iff]
    simp [hm]
theorem parIn_nil (F : List Core) (i : Nat) : parIn F [] i = false := by
  unfold parIn
  cases parF F i <;> simp
end Go.Proofs.Ytnjoimedilonnaa
namespace Go.Proofs.Ytnjoimedilonnaa
open Go.RowKit Go.Maps Go.WideMaps
theorem grown_set13 {w W : World} {g : Nat} (h : w.grownBy W (some g)) (o : Nat) (u : Value) : w.grownBy (W.setCell ⟨g, o, none⟩ u) (some g) :=
  ⟨h.os, h.tape, h.output, by simpa [World.setCell] using h.size, fun k hk hne => (Below.heap_setCell _ _ _ k (fun e => hne (by rw [e]))).trans (h.block k hk hne)⟩
structure OwnAt (F : List Core) (w0 w3 W : World) (g len : Nat) (V0 : List Int) (t : List Nat) (k : Nat) (V : List Int) : Prop where
  below : Below w0.heap.size w0 W
  grown : w3.grownBy W (some g)
  row : ORow encI W g V
  hl : V.length = len
  at_ : ∀ i : Nat, V[i]? = if i ∈ t.take k then some (ownF F i) else V0[i]?
section
variable {F : List Core} {w0 w3 W X : World} {g len k : Nat} {V0 V : List Int} {t : List Nat}
theorem OwnAt.keep (h : OwnAt F w0 w3 W g len V0 t k V) (hb : Below W.heap.size W X) : OwnAt F w0 w3 X g len V0 t k V :=
  ⟨h.below.trans (hb.mono h.below.size), grown_then h.grown hb, h.row.keep hb, h.hl, h.at_⟩
theorem OwnAt.step (h : OwnAt F w0 w3 W g len V0 t k V) (hg : w0.heap.size ≤ g) {i : Nat} (hi : t[k]? = some i) (hil : i < len) {z : Int} (hz : ownF F i = z) : OwnAt F w0 w3 (W.setCell ⟨g, i, none⟩ (.int .i64 z)) g len V0 t (k + 1) (V.set i z) := by
  refine ⟨h.below.setCell (p := ⟨g, i, none⟩) hg _, grown_set13 h.grown _ _, h.row.set (by rw [h.hl]; exact hil) z, by rw [List.length_set]; exact h.hl, fun j => ?_⟩
  have hm : ∀ x, x ∈ t.take (k + 1) ↔ x ∈ t.take k ∨ x = i := fun x => by
    rw [List.take_add_one, hi]
    simp
  by_cases e : i = j
  · subst e
    rw [List.getElem?_set_self (by rw [h.hl]; exact hil), if_pos ((hm i).2 (.inr rfl)), hz]
  · rw [List.getElem?_set_ne e, h.at_ j]
    by_cases hj : j ∈ t.take k
    · rw [if_pos hj, if_pos ((hm j).2 (.inl hj))]
    · rw [if_neg hj, if_neg (fun h2 => by rcases (hm j).1 h2 with h2 | h2; exact hj h2; exact e h2.symm)]
end
theorem ordI_nat (F : List Core) (r : Nat) : ordI F (r : Int) = natL (ordF F r) := by unfold ordI natL; rw [Int.toNat_natCast]
end Go.Proofs.Ytnjoimedilonnaa
namespace Go.Proofs.Ytnjoimedilonnaa
open Go.RowKit Go.Maps Go.WideMaps
theorem ORow.stay {α : Type} {enc : α → Value} {w w' : World} {g : Nat} {L : List α} (h : ORow enc w g L) (hb : Below w.heap.size w w') : ORow enc w' g L := h.keep hb
end Go.Proofs.Ytnjoimedilonnaa
