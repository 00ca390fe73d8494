/- Texts joined in build order: MoveOver ReadMath AttrOpen. -/
import Derived.Test.YtnjoimedilonnaaB31
import Derived.Test.YtnjoimedilonnaaB29
import Derived.Test.YtnjoimedilonnaaB21
import Derived.Lib.IndexAny
import Derived.Lib.Strings
import Derived.Test.YtnjoimedilonnaaB04
import Derived.Test.YtnjoimedilonnaaChecked
import Derived.Deep.SlicePairs
import Derived.ProofKit
namespace Go.Proofs.Ytnjoimedilonnaa
open Go.RowKit
section
variable {m : Int} {F : List Core}
theorem top_none (h : rightF m F = true) {n : Nat} (hn : n < F.length) (hp : parentK F n = -1) (hk : kindK F n = 1 ∨ kindK F n = 2) : parS F n = none := by
  have hx : F[n]? = some F[n] := List.getElem?_eq_getElem hn
  rw [parentK_at hx] at hp
  rw [kindK_at hx] at hk
  refine parS_none ?_
  rw [nextUp_at hx]
  show (if F[n].parent = -1 then F[n].host else F[n].parent) = -1
  rw [if_pos hp]
  exact (right_node h hx).free (by omega)
theorem taken_doc (h : rightF m F = true) {n : Nat} (hn : n < F.length) (hp : parentK F n = -1) (hk : kindK F n = 1 ∨ kindK F n = 2) {d : Int} (hd : ∃ c, getC F d = some c ∧ c.kind = 0) : Taken m F (mvDoc F n d) n d :=
  ⟨h, hn, top_none h hn hp hk, by omega, hd, edF_edit _ _ _ _⟩
end
section
variable {ρ : Nat → Nat} {pw g cap len : Nat} {m : Int} {M : List NodeD} {v : Value} {N : List NoteD}
end
end Go.Proofs.Ytnjoimedilonnaa
namespace Go.Proofs.Ytnjoimedilonnaa
open Go.RowKit
abbrev BL := List UInt8
def strB (l : BL) : ByteArray := ⟨l.toArray⟩
theorem strB_data (l : BL) : (strB l).data.toList = l := rfl
theorem strB_size (l : BL) : (strB l).size = l.length := Lib.size_eq _
def skipM (l p : BL) : Option BL := if p.isPrefixOf l then some (l.drop p.length) else none
def okM (l : BL) : Bool := decide (l.length ≤ 100000) && l.all (fun b => decide (b.toNat < 128))
def endM (l : BL) : Nat := (Lib.indexAny l [33, 32, 61, 62]).toNat
def qM : BL → BL → Option (BL × BL)
  | _, [] => none
  | acc, b :: r => if b = 34 then some (acc, r) else if b = 92 then (match r with | [] => none | c :: r2 => if c = 34 ∨ c = 92 then qM (acc ++ [c]) r2 else none) else qM (acc ++ [b]) r
def quoM (l : BL) : Option (BL × BL) := if l.length ≤ 100000 then (match skipM l [34] with | some r => qM [] r | none => none) else none
def wordM (l : BL) : Option (BL × BL) := if okM l then some (l.take (endM l), l.drop (endM l)) else none
def attrM (l : BL) : Option ((ByteArray × ByteArray) × BL) :=
  match wordM l with
  | none => none
  | some (n, l1) => match skipM l1 [61] with
    | none => none
    | some l2 => match quoM l2 with
      | none => none
      | some (v, l3) => some ((strB n, strB v), l3)
def attrsM : Nat → BL → AL → Option (AL × BL)
  | 0, _, _ => none
  | k + 1, l, acc => match skipM l [32] with
    | none => some (acc, l)
    | some l1 => match attrM l1 with
      | none => none
      | some (a, l2) => if acc.length < 1000 then attrsM k l2 (acc ++ [a]) else none
def isM (l : BL) : Option (BL × BL) :=
  match skipM l [33] with
  | none => some ([], l)
  | some l1 => match wordM l1 with
    | none => none
    | some (s, l2) => if s = [] then none else some (s, l2)
abbrev nodeC (kind : Int) (name is data : BL) (attrs : AL) (doc : Int) : Core := ⟨kind, strB name, strB is, strB data, attrs, 0, [], 0, 0, doc⟩
def headM (doc : Int) (l : BL) : Option (BL × Core × BL) :=
  match wordM l with
  | none => none
  | some (n, l1) => match isM l1 with
    | none => none
    | some (s, l2) => match attrsM (l2.length + 1) l2 [] with
      | none => none
      | some (a, l3) => match skipM l3 [62] with
        | none => none
        | some l4 => if n.length ≤ 1000 then some (n, nodeC 1 n s [] a doc, l4) else none
def addM (F : List Core) (c : Core) : Option (List Core) := if F.length < 1000 then some (F ++ [aloneC c F.length]) else none
def hangM (F : List Core) (host sh : Nat) : List Core := (F.modify host (fun c => ⟨c.kind, c.name, c.is, c.data, c.attrs, c.parent, c.kids, c.host, sh, c.doc⟩)).modify sh (fun c => ⟨c.kind, c.name, c.is, c.data, c.attrs, c.parent, c.kids, host, c.under, c.doc⟩)
inductive Job where
  | node
  | kids (p : Nat) (stop : BL)
def readM (doc : Int) : Nat → Job → BL → List Core → Option (BL × List Core)
  | 0, _, _, _ => none
  | k + 1, .node, l, F =>
    match skipM l [60] with
    | some l1 => (match headM doc l1 with
      | none => none
      | some (n, c, l2) => match addM F c with
        | none => none
        | some F1 => match skipM l2 [123] with
          | none => readM doc k (.kids F.length ([60, 47] ++ n ++ [62])) l2 F1
          | some l3 => match addM F1 (nodeC 4 [] [] [] [] doc) with
            | none => none
            | some F2 => match readM doc k (.kids (F.length + 1) [125]) l3 (hangM F2 F.length (F.length + 1)) with
              | none => none
              | some (l4, F3) => readM doc k (.kids F.length ([60, 47] ++ n ++ [62])) l4 F3)
    | none => match skipM l [91] with
      | some l1 => (match addM F (nodeC 3 [] [] [] [] doc) with
        | none => none
        | some F1 => readM doc k (.kids F.length [93]) l1 F1)
      | none => match quoM l with
        | none => none
        | some (d, l1) => match addM F (nodeC 2 [] [] d [] doc) with
          | none => none
          | some F1 => some (l1, F1)
  | k + 1, .kids p stop, l, F =>
    match skipM l stop with
    | some l1 => some (l1, F)
    | none => match readM doc k .node l F with
      | none => none
      | some (l1, F1) => if (kidsK F1 p).length < 1000 ∧ p < F.length ∧ F.length < F1.length then readM doc k (.kids p stop) l1 (mvIn F1 F.length p (-1)) else none
end Go.Proofs.Ytnjoimedilonnaa
namespace Go.Proofs.Ytnjoimedilonnaa
open Go.RowKit Go.Deep Go.ChangeShapes Go.WideShapes
theorem block_lt {W : World} {p : Addr} {v : Value} (h : W.cell? p = some v) : p.block < W.heap.size := by
  rcases Nat.lt_or_ge p.block W.heap.size with h1 | h1
  · exact h1
  · unfold World.cell? at h
    rw [Array.getElem?_eq_none h1] at h
    simp at h
theorem open_attrs {H : Type} {enc : TypeId × Value → H} {W : World} {a : Option Addr} {len cap : Nat} {d : DataW H} {p : List MemPlace}
    (h : DataW.Trod enc Try.prog W 0 (fun _ => true) true 29 (.slice a len cap) d p) : ∃ L, AttrRow W a len cap L := by
  obtain ⟨fuel, hf⟩ := h
  rcases open_slice_pairs Try.underlying29 Try.underlying48 (by kernel_rfl) rfl rfl (by kernel_rfl) (by kernel_rfl) hf with ⟨hcs, _⟩ | ⟨ad, l, c, m, n, V0, V1, D0, D1, P0, P1, hcs, _, hl, hm, hmm, _, hi⟩
  · simp [Value.cells] at hcs
    obtain ⟨rfl, rfl, rfl⟩ := hcs
    exact ⟨[], SRow.nil, by simp, fun _ => rfl⟩
  · simp [Value.cells] at hcs
    obtain ⟨rfl, rfl, rfl⟩ := hcs
    have hml : len ≤ m := by rw [hmm]; simpa using hl
    have each : ∀ i, i < len → ∃ x : ByteArray × ByteArray, W.cell? (ad.add (i * 2)) = some (.string x.1) ∧ W.cell? (ad.add (i * 2 + 1)) = some (.string x.2) ∧ x.1.size ≤ maxLen ∧ x.2.size ≤ maxLen := by
      intro i hil
      obtain ⟨h1, h2, h3, h4⟩ := hi i (by omega)
      obtain ⟨s, hs, _, hs3⟩ := DataW.trod_string Try.underlying9 h3
      obtain ⟨t, ht, _, ht3⟩ := DataW.trod_string Try.underlying9 h4
      simp at hs ht
      exact ⟨(s, t), by rw [h1, hs], by rw [h2, ht], hs3, ht3⟩
    obtain ⟨q, hq⟩ := choose_lt each
    refine ⟨(List.range len).map q, ⟨by simp, hl, hm, fun x _ => encA_len x, ?_⟩, ?_, fun h => by cases h⟩
    · rcases Nat.eq_zero_or_pos len with h0 | h0
      · exact .inl h0
      · obtain ⟨b, off, spot⟩ := ad
        have hc := (hq 0 h0).1
        have hspot : spot = none := by simpa [Addr.add] using World.cell?_spot hc
        subst hspot
        refine .inr ⟨b, off, rfl, ?_, ?_⟩
        · have := block_lt hc
          rwa [add_plain] at this
        · intro i x j v hx hv
          obtain ⟨hil, hgx⟩ := List.getElem?_eq_some_iff.1 hx
          have hil' : i < len := by simpa using hil
          simp at hgx
          obtain ⟨h1, h2, _⟩ := hq i hil'
          rw [add_plain] at h1 h2
          rw [hgx] at h1 h2
          obtain ⟨hjl, hgv⟩ := List.getElem?_eq_some_iff.1 hv
          match j, hjl with
          | 0, _ => simp [encA] at hgv; subst hgv; exact h1
          | 1, _ => simp [encA] at hgv; subst hgv; simpa [Nat.add_assoc] using h2
    · intro x hx
      obtain ⟨i, hi1, rfl⟩ := List.mem_map.1 hx
      have := hq i (List.mem_range.1 hi1)
      exact ⟨this.2.2.1, this.2.2.2⟩
end Go.Proofs.Ytnjoimedilonnaa
