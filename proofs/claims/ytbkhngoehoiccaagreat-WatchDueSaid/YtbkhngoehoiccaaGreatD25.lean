/- Texts joined in build order: LRow DueRow MoveMath MoveTell MoveMath2 MoveOut MoveWhy MoveAs MoveOver MoveStand MovePutMath MoveParts MovePut OwnRows CBox ReadMath. -/
import Derived.Test.YtbkhngoehoiccaaGreatD03
import Derived.Test.YtbkhngoehoiccaaGreatChecked
import Derived.WalkLawsBesides
import Derived.Lib.Hide
import Derived.Test.YtbkhngoehoiccaaGreatD17
import Derived.Test.YtbkhngoehoiccaaGreatD21
import Derived.Test.YtbkhngoehoiccaaGreatD23
import Derived.Test.YtbkhngoehoiccaaGreatD19
import Derived.Deep.RegionLaw
import Derived.Deep.DeepCutAuto
import Derived.Test.YtbkhngoehoiccaaGreatD06
import Derived.WalkKit
import Derived.LaidEql
import Derived.Stop.Asserts
import Derived.RowKitTokens
import Derived.Deep.RegionWith
import Derived.Test.YtbkhngoehoiccaaGreatD04
import Derived.Deep.SlicePairs
import Derived.Laws.IdiomCopy
import Derived.Test.YtbkhngoehoiccaaGreatD15
import Derived.Lib.IndexAny
import Derived.Lib.Strings
namespace Go.Proofs.YtbkhngoehoiccaaGreat
open Go.RowKit
structure LRow {α : Type} (enc : α → List Value) (size : Nat) (ok : α → Prop) (w : World) (a : Option Addr) (len cap : Nat) (L : List α) : Prop where
  row : SRow enc size w a len cap L
  ok : ∀ x ∈ L, ok x
  hnil : a = none → cap = 0
section
variable {α : Type} {enc : α → List Value} {size : Nat} {ok : α → Prop} {w w' : World} {a : Option Addr} {len cap : Nat} {L : List α}
theorem LRow.hlen (h : LRow enc size ok w a len cap L) : L.length = len := h.row.hlen
theorem LRow.len64 (h : LRow enc size ok w a len cap L) : len ≤ 9223372036854775807 := h.row.len64
theorem LRow.below (h : LRow enc size ok w a len cap L) (hb : Below w.heap.size w w') : LRow enc size ok w' a len cap L := ⟨h.row.below hb, h.ok, h.hnil⟩
theorem LRow.drewN (h : LRow enc size ok w a len cap L) (n : Nat) : LRow enc size ok (w.drewN n) a len cap L := ⟨h.row.drewN n, h.ok, h.hnil⟩
theorem LRow.drew (h : LRow enc size ok w a len cap L) : LRow enc size ok w.drew a len cap L := ⟨h.row.drew, h.ok, h.hnil⟩
theorem LRow.nil : LRow enc size ok w none 0 0 ([] : List α) := ⟨SRow.nil, fun x hx => (by cases hx), fun _ => rfl⟩
end
theorem LRow.int {w : World} {a : Option Addr} {len cap : Nat} {L : List Int} (h : LRow encZ 1 In64 w a len cap L) : IntRow w a len cap L := ⟨h.row, h.ok, h.hnil⟩
structure SHd (α : Type) where
  a : Option Addr
  n : Nat
  c : Nat
  l : List α
def encH {α : Type} (x : SHd α) : List Value := [.slice x.a x.n x.c]
theorem encH_len {α : Type} (x : SHd α) : (encH x).length = 1 := rfl
structure HRow {α : Type} (enc : α → List Value) (size : Nat) (ok : α → Prop) (w : World) (a : Option Addr) (len cap : Nat) (T : List (SHd α)) : Prop where
  row : SRow encH 1 w a len cap T
  each : ∀ x ∈ T, LRow enc size ok w x.a x.n x.c x.l
  hnil : a = none → cap = 0
section
variable {α : Type} {enc : α → List Value} {size : Nat} {ok : α → Prop} {w w' : World} {a : Option Addr} {len cap : Nat} {T : List (SHd α)}
theorem HRow.hlen (h : HRow enc size ok w a len cap T) : T.length = len := h.row.hlen
theorem HRow.len64 (h : HRow enc size ok w a len cap T) : len ≤ 9223372036854775807 := h.row.len64
theorem HRow.below (h : HRow enc size ok w a len cap T) (hb : Below w.heap.size w w') : HRow enc size ok w' a len cap T := ⟨h.row.below hb, fun x hx => (h.each x hx).below hb, h.hnil⟩
theorem HRow.drewN (h : HRow enc size ok w a len cap T) (n : Nat) : HRow enc size ok (w.drewN n) a len cap T := ⟨h.row.drewN n, fun x hx => (h.each x hx).drewN n, h.hnil⟩
theorem HRow.drew (h : HRow enc size ok w a len cap T) : HRow enc size ok w.drew a len cap T := ⟨h.row.drew, fun x hx => (h.each x hx).drew, h.hnil⟩
theorem HRow.nil : HRow enc size ok w none 0 0 ([] : List (SHd α)) := ⟨SRow.nil, fun x hx => (by cases hx), fun _ => rfl⟩
theorem HRow.get (h : HRow enc size ok w a len cap T) {k : Nat} (hk : k < len) : ∃ b off x, a = some ⟨b, off, none⟩ ∧ b < w.heap.size ∧ T[k]? = some x ∧ w.cell? ⟨b, off + k, none⟩ = some (.slice x.a x.n x.c) ∧ LRow enc size ok w x.a x.n x.c x.l := by
  obtain ⟨b, off, x, ha, hlt, hg, _, hc⟩ := h.row.get hk
  have h0 := hc 0 _ rfl
  rw [Nat.mul_one, Nat.add_zero] at h0
  exact ⟨b, off, x, ha, hlt, hg, h0, h.each _ (List.mem_of_getElem? hg)⟩
end
end Go.Proofs.YtbkhngoehoiccaaGreat
namespace Go.Proofs.YtbkhngoehoiccaaGreat
open Go.RowKit
structure TodoD where
  kind : Int
  dfn : Int
  name : ByteArray
  had : Bool
  has : Bool
  old : ByteArray
  new : ByteArray
  src : Int
  dst : Int
  on : Bool
deriving DecidableEq
structure DueD where
  node : Int
  todo : TodoD
deriving DecidableEq
abbrev todoL (x : TodoD) : List Value := [.int .i64 x.kind, .int .i64 x.dfn, .string x.name, .bool x.had, .bool x.has, .string x.old, .string x.new, .int .i64 x.src, .int .i64 x.dst, .bool x.on]
def encU (x : DueD) : List Value := .int .i64 x.node :: todoL x.todo
theorem encU_len (x : DueD) : (encU x).length = 11 := rfl
theorem encU_one (x : DueD) : ∀ u ∈ encU x, u.oneCell' = true := by
  intro u hu
  simp [encU] at hu
  rcases hu with rfl | rfl | rfl | rfl | rfl | rfl | rfl | rfl | rfl | rfl | rfl <;> rfl
structure DueRow (w : World) (a : Option Addr) (len cap : Nat) (L : List DueD) : Prop where
  row : SRow encU 11 w a len cap L
  hnil : a = none → cap = 0
theorem DueRow.below {w w' : World} {a : Option Addr} {len cap : Nat} {L : List DueD} (h : DueRow w a len cap L) (hb : Below w.heap.size w w') : DueRow w' a len cap L := ⟨h.row.below hb, h.hnil⟩
theorem DueRow.nil (w : World) : DueRow w none 0 0 [] := ⟨SRow.nil, fun _ => rfl⟩
def DuePost (w : World) (l : List DueD) (e : Ending) (w' : World) : Prop := ∃ a len cap, e = .returned (.slice a len cap) ∧ DueRow w' a len cap l ∧ Below w.heap.size w w'
theorem DueRow.of_own {w : World} {base n : Nat} {v : Value} {L : List DueD} (hl : L.length = n) (h : w.ownsRow base 66 11 v n (L.flatMap encU)) : ∃ a c, v = .slice a n c ∧ DueRow w a n c L := by
  obtain ⟨a, c, e, hr, hn⟩ := SRow.of_own (fun z _ => encU_len z) hl h
  refine ⟨a, c, e, hr, fun ha => ?_⟩
  subst ha
  rcases h.2 with ⟨hv, _⟩ | ⟨g, cap, cur, hv, _⟩
  · rw [e] at hv
    injection hv
  · rw [e] at hv
    cases hv
theorem due_info : (Tryz.prog.info? 66).map (fun i => (i.zero, i.size, i.bytes)) = some (some (.agg #[.int .i64 0, .int .i64 0, .int .i64 0, .string ⟨#[]⟩, .bool false, .bool false, .string ⟨#[]⟩, .string ⟨#[]⟩, .int .i64 0, .int .i64 0, .bool false]), 11, 104) := by kernel_rfl
abbrev upT (d : Int) : TodoD := ⟨9, d, ⟨#[]⟩, false, false, ⟨#[]⟩, ⟨#[]⟩, 0, 0, false⟩
end Go.Proofs.YtbkhngoehoiccaaGreat
namespace Go.Proofs.YtbkhngoehoiccaaGreat
open Go.RowKit
def edF (F : List Core) (P : Nat → Core → Int) (K : Nat → Core → List Int) (D : Nat → Core → Int) : List Core := F.mapIdx fun j c => edC c (P j c) (K j c) (D j c)
theorem edF_edit (F : List Core) (P : Nat → Core → Int) (K : Nat → Core → List Int) (D : Nat → Core → Int) : Edit F (edF F P K D) P K D :=
  ⟨by unfold edF; simp, fun j c hc => by unfold edF; rw [List.getElem?_mapIdx, hc]; rfl⟩
section
variable {F G : List Core} {P P' : Nat → Core → Int} {K K' : Nat → Core → List Int} {D D' : Nat → Core → Int}
theorem Edit.eq (h : Edit F G P K D) : G = edF F P K D := by
  apply List.ext_getElem?
  intro i
  by_cases hi : i < F.length
  · have hc : F[i]? = some F[i] := List.getElem?_eq_getElem hi
    rw [h.at_ i _ hc, (edF_edit F P K D).at_ i _ hc]
  · rw [List.getElem?_eq_none (by rw [h.len]; omega), List.getElem?_eq_none (by rw [(edF_edit F P K D).len]; omega)]
theorem Edit.cong (h : Edit F G P K D) (hh : ∀ (j : Nat) c, F[j]? = some c → P j c = P' j c ∧ K j c = K' j c ∧ D j c = D' j c) : Edit F G P' K' D' :=
  ⟨h.len, fun j c hc => by obtain ⟨e1, e2, e3⟩ := hh j c hc; rw [h.at_ j c hc, e1, e2, e3]⟩
end
def mvOut (F : List Core) (n : Nat) : List Core := edF F (fun j c => if j = n then -1 else c.parent) (fun j c => if (j : Int) = parentK F n then c.kids.filter (fun z => z != (n : Int)) else c.kids) (fun _ c => c.doc)
def mvDoc (F : List Core) (n : Nat) (d : Int) : List Core := edF F (fun _ c => c.parent) (fun _ c => c.kids) (fun j c => if (j : Int) ∈ allI F n then d else c.doc)
def insB (l : List Int) (b n : Int) : List Int := if b = -1 then l ++ [n] else l.take (findN l b) ++ n :: l.drop (findN l b)
def mvIn (F : List Core) (n p : Nat) (b : Int) : List Core := edF F (fun j c => if j = n then (p : Int) else c.parent) (fun j c => if j = p then insB c.kids b n else c.kids) (fun _ c => c.doc)
abbrev note (k : Int) : NoteD := ⟨k, 0, 0, 0, ⟨#[]⟩, false, false, ⟨#[]⟩, ⟨#[]⟩⟩
def noteAt (x : NoteD) (z : Int) : NoteD := ⟨x.kind, z, x.src, x.dst, x.name, x.had, x.has, x.old, x.new⟩
def docK (F : List Core) (n : Int) : Int := match getC F n with | some x => x.doc | none => 0
section
variable {m : Int} {F G : List Core}
theorem docK_at {n : Nat} {x : Core} (hx : F[n]? = some x) : docK F (n : Int) = x.doc := by unfold docK; rw [getC_nat, hx]
theorem mvOut_out (h : rightF m F = true) {n : Nat} {x : Core} (hx : F[n]? = some x) (hp : x.parent ≠ -1) : ∃ p : Nat, x.parent = p ∧ p < F.length ∧ Out m F (mvOut F n) n p x := by
  obtain ⟨p, h1, h2, _⟩ := right_par h hx hp
  refine ⟨p, h1, h2, h, hx, h1, (edF_edit F _ _ _).cong (fun j c hc => ⟨rfl, ?_, rfl⟩)⟩
  rw [parentK_at hx, h1]
  by_cases e : j = p
  · rw [if_pos e, if_pos (by omega)]
  · rw [if_neg e, if_neg (by omega)]
theorem mem_all (h : rightF m F = true) {n j : Nat} (hn : n < F.length) (hj : j < F.length) : (j : Int) ∈ allI F n ↔ holdsT (parS F) n j := by
  rw [mem_allI, Int.toNat_natCast]
  exact (treeS h).mem_ord _ _ hn (by omega) j hj
theorem doc_up (h : rightF m F = true) {j q : Nat} (hj : j < F.length) (hq : parS F j = some q) : docK F j = docK F q := by
  have hc : F[j]? = some F[j] := List.getElem?_eq_getElem hj
  have N := right_node h hc
  obtain ⟨hn, hql⟩ := parS_next h hj hq
  have hcq : F[q]? = some F[q] := List.getElem?_eq_getElem hql
  rw [docK_at hc, docK_at hcq]
  rw [nextUp_at hc] at hn
  by_cases hp : F[j].parent = -1
  · have hn : F[j].host = (q : Int) := by
      have : (if F[j].parent = -1 then F[j].host else F[j].parent) = (q : Int) := hn
      rwa [if_pos hp] at this
    have hk : F[j].kind = 4 := by
      by_cases e : F[j].kind = 4
      · exact e
      · have := N.free e
        omega
    obtain ⟨d, h1, _, _, h4⟩ := N.host hk
    rw [hn, getC_nat, hcq] at h1
    rw [Option.some.inj h1]
    exact h4.symm
  · have hn : F[j].parent = (q : Int) := by
      have : (if F[j].parent = -1 then F[j].host else F[j].parent) = (q : Int) := hn
      rwa [if_neg hp] at this
    rcases N.par with e | ⟨_, d, h1, _, h3⟩
    · exact absurd e hp
    · rw [hn, getC_nat, hcq] at h1
      obtain rfl := Option.some.inj h1
      obtain ⟨c, h4, _, _, h6⟩ := (right_node h hcq).kids _ h3
      rw [getC_nat, hc] at h4
      rw [Option.some.inj h4]
      exact h6
theorem doc_over (h : rightF m F = true) {a : Nat} : ∀ (k b : Nat), b < F.length → upN (parS F) k b = some a → docK F b = docK F a
  | 0, b, _, hu => by rw [Option.some.inj hu]
  | k + 1, b, hb, hu => by
    unfold upN at hu
    cases hq : parS F b with
    | none => rw [hq] at hu; cases hu
    | some q =>
      rw [hq] at hu
      rw [doc_up h hb hq]
      exact doc_over h k q (parS_next h hb hq).2 hu
theorem doc_all (h : rightF m F = true) {n j : Nat} (hn : n < F.length) (hj : (j : Int) ∈ allI F n) (hjl : j < F.length) : docK F j = docK F n := by
  obtain ⟨k, hk⟩ := (mem_all h hn hjl).1 hj
  exact doc_over h k j hjl hk
structure Taken (m : Int) (F G : List Core) (n : Nat) (d : Int) : Prop where
  right : rightF m F = true
  lt : n < F.length
  top : parS F n = none
  kind : kindK F n ≠ 0
  doc : ∃ c, getC F d = some c ∧ c.kind = 0
  ed : Edit F G (fun _ c => c.parent) (fun _ c => c.kids) (fun j c => if (j : Int) ∈ allI F n then d else c.doc)
section
variable {n : Nat} {d : Int}
theorem Taken.up (h : Taken m F G n d) {j q : Nat} (hj : j < F.length) (hq : parS F j = some q) : (j : Int) ∈ allI F n ↔ (q : Int) ∈ allI F n := by
  have hql := (parS_next h.right hj hq).2
  rw [mem_all h.right h.lt hj, mem_all h.right h.lt hql]
  constructor
  · intro hh
    rcases holds_up hh with e | ⟨s, e1, e2⟩
    · rw [← e, h.top] at hq
      cases hq
    · rw [hq] at e1
      rw [Option.some.inj e1]
      exact e2
  · exact fun hh => holds_trans hh (holds_par hq)
theorem Taken.node (h : Taken m F G n d) {j : Nat} {y : Core} (hy : G[j]? = some y) : NodeP G j y := by
  obtain ⟨c, hc, rfl⟩ := h.ed.back hy
  have hjl := (List.getElem?_eq_some_iff.1 hc).1
  have N := right_node h.right hc
  refine ⟨N.kind, ?_, fun e => ?_, ?_, N.once, fun k hk => ?_, N.leaf, fun e => ?_, fun e => ?_, N.free, ?_, N.text⟩
  · show ∃ d', getC G (if (j : Int) ∈ allI F n then d else c.doc) = some d' ∧ d'.kind = 0
    split
    · obtain ⟨d', h1, h2⟩ := h.doc
      exact ⟨_, h.ed.getC h1, h2⟩
    · obtain ⟨d', h1, h2⟩ := N.doc
      exact ⟨_, h.ed.getC h1, h2⟩
  · show (if (j : Int) ∈ allI F n then d else c.doc) = (j : Int)
    have e : c.kind = 0 := e
    have hnm : ¬ (j : Int) ∈ allI F n := fun hm => by
      rcases holds_up ((mem_all h.right h.lt hjl).1 hm) with e1 | ⟨s, e1, _⟩
      · exact h.kind (by rw [e1, kindK_at hc]; exact e)
      · have hn := (parS_next h.right hjl e1).1
        rw [nextUp_at hc] at hn
        have hn2 : (if c.parent = -1 then c.host else c.parent) = (s : Int) := hn
        have hpar : c.parent = -1 := by
          rcases N.par with h3 | ⟨h3, _⟩
          · exact h3
          · omega
        rw [if_pos hpar, N.free (by omega)] at hn2
        omega
    rw [if_neg hnm]
    exact N.own e
  · rcases N.par with h1 | ⟨h1, q, h2, h3, h4⟩
    · exact .inl h1
    · exact .inr ⟨h1, _, h.ed.getC h2, h3, h4⟩
  · obtain ⟨c', h1, h2, h3, h4⟩ := N.kids k hk
    obtain ⟨g0, g1, g2⟩ := getC_some h1
    have hkn : ((k.toNat : Nat) : Int) = k := by omega
    refine ⟨_, h.ed.getC h1, h2, h3, ?_⟩
    show (if ((k.toNat : Nat) : Int) ∈ allI F n then d else c'.doc) = if (j : Int) ∈ allI F n then d else c.doc
    have hu := h.up g1 (parS_parent g2 h3)
    by_cases e : (j : Int) ∈ allI F n
    · rw [if_pos e, if_pos (hu.2 e)]
    · rw [if_neg e, if_neg (fun e2 => e (hu.1 e2)), h4]
  · obtain ⟨h1, h2⟩ := N.root e
    exact ⟨h1, fun k hk => by rw [h.ed.kindK]; exact h2 k hk⟩
  · obtain ⟨d', h1, h2, h3, h4⟩ := N.host e
    obtain ⟨g0, g1, g2⟩ := getC_some h1
    refine ⟨_, h.ed.getC h1, h2, h3, ?_⟩
    show (if ((c.host.toNat : Nat) : Int) ∈ allI F n then d else d'.doc) = if (j : Int) ∈ allI F n then d else c.doc
    have e4 : c.kind = 4 := e
    have hpar : c.parent = -1 := by
      rcases N.par with h5 | ⟨h5, _⟩
      · exact h5
      · omega
    have hu := h.up hjl (parS_host hc hpar (show c.host = ((c.host.toNat : Nat) : Int) by omega))
    by_cases e : (j : Int) ∈ allI F n
    · rw [if_pos e, if_pos (hu.1 e)]
    · rw [if_neg e, if_neg (fun e2 => e (hu.2 e2)), h4]
  · rcases N.under with h1 | ⟨h1, u, h2, h3, h4⟩
    · exact .inl h1
    · exact .inr ⟨h1, _, h.ed.getC h2, h3, h4⟩
theorem Taken.next (h : Taken m F G n d) (j : Nat) : nextUp G (j : Int) = nextUp F j := by
  by_cases hj : j < F.length
  · have hc : F[j]? = some F[j] := List.getElem?_eq_getElem hj
    rw [h.ed.next hc, nextUp_at hc]
    rfl
  · unfold nextUp
    rw [getC_nat, getC_nat, List.getElem?_eq_none (by rw [h.ed.len]; omega), List.getElem?_eq_none (by omega)]
theorem Taken.rightG (h : Taken m F G n d) : rightF m G = true := by
  obtain ⟨⟨h1, h2, h3, h4⟩, _, _⟩ := (rightF_iff m F).1 h.right
  refine right_of h1 h2 (by rw [h.ed.len]; exact h3) (h.ed.head h4) (fun i y hy => h.node hy) (rankF F) (fun i hi => ?_)
  rw [h.ed.len] at hi ⊢
  rw [h.next]
  exact rank_next h.right hi
end
end
end Go.Proofs.YtbkhngoehoiccaaGreat
namespace Go.Proofs.YtbkhngoehoiccaaGreat
open Go.RowKit
abbrev ptrV (b : Nat) : Value := .pointer (some ⟨b, 0, none⟩)
section
variable {ρ : Nat → Nat} {pw g cap len : Nat} {m : Int} {M : List NodeD} {v : Value} {N : List NoteD}
abbrev noteB (x : NoteD) : Obj := .cells #[.int .i64 x.kind, .int .i64 x.node, .int .i64 x.src, .int .i64 x.dst, .string x.name, .bool x.had, .bool x.has, .string x.old, .string x.new] 62
structure TBox (W : World) (b : Nat) (x : NoteD) : Prop where
  lt : b < W.heap.size
  c : ∀ j u, (encO x)[j]? = some u → W.cell? ⟨b, j, none⟩ = some u
  f : ∀ j, W.frozen? ⟨b, j, none⟩ = false
theorem TBox.new (W : World) (x : NoteD) : TBox (W.alloc (noteB x)) W.heap.size x :=
  ⟨by simp, fun j u hu => by rw [cell_of_row (W.alloc (noteB x)) W.heap.size j _ 62 (0, 0) (heap_alloc_new W _)]; simpa [encO] using hu, fun j => row_free (heap_alloc_new W (noteB x)) j⟩
theorem TBox.keep {W W2 : World} {b : Nat} {x : NoteD} (h : TBox W b x) (hb : Below W.heap.size W W2) : TBox W2 b x :=
  ⟨Nat.lt_of_lt_of_le h.lt hb.size, fun j u hu => (hb.cell (p := ⟨b, j, none⟩) h.lt).trans (h.c j u hu), fun j => (hb.frozen (p := ⟨b, j, none⟩) h.lt).trans (h.f j)⟩
theorem TBox.at_ {W : World} {b : Nat} {x : NoteD} (h : TBox W b x) (z : Int) : TBox (W.setCell ⟨b, 1, none⟩ (.int .i64 z)) b (noteAt x z) := by
  refine ⟨by simpa [World.setCell] using h.lt, fun j u hu => ?_, fun j => by rw [World.frozen?_setCell]; exact h.f j⟩
  by_cases e : j = 1
  · subst e
    have hu : some (Value.int .i64 z) = some u := hu
    rw [← Option.some.inj hu]
    exact World.cell?_setCell_same _ _ _ (h.c 1 _ rfl)
  · rw [World.cell?_setCell_other _ _ _ _ (fun e' => by injection e' with _ e'; omega)]
    refine h.c j u ?_
    rw [show encO (noteAt x z) = (encO x).set 1 (.int .i64 z) from rfl, List.getElem?_set_ne (fun e2 => e e2.symm)] at hu
    exact hu
theorem TBox.turn {W W2 : World} {b : Nat} {x : NoteD} (h : TBox W b x) (hs : W.heap.size ≤ W2.heap.size) (hb : W2.heap[b]? = W.heap[b]?) : TBox W2 b x :=
  ⟨Nat.lt_of_lt_of_le h.lt hs, fun j u hu => (World.cell?_of_block (w := W) (a := ⟨b, j, none⟩) hb).trans (h.c j u hu), fun j => (World.frozen?_of_block (w := W) (a := ⟨b, j, none⟩) hb).trans (h.f j)⟩
def WkPost (ρ : Nat → Nat) (w : World) (pw g cap len : Nat) (m : Int) (Q : List NodeD → List NoteD → Prop) (e : Ending) (w' : World) : Prop :=
  e = .returned (.tuple #[]) ∧ ∃ ρ' M' v' N', Wk ρ' w' pw g cap len m M' v' N' ∧ Turn ρ w w' ∧ (∀ k, k < w.heap.size → ρ' k = ρ k) ∧ Q M' N'
theorem own_some {w : World} {base : Nat} {e : TypeId} {size n : Nat} {v : Value} {xs : List Value} (h : w.ownsRow base e size v n xs) (hn : 0 < n) : ∃ g cap, v = .slice (some ⟨g, 0, none⟩) n cap := by
  rcases h.2 with ⟨_, h0⟩ | ⟨g, cap, cur, hv, _⟩
  · omega
  · exact ⟨g, cap, hv⟩
structure TellIn (ρ1 : Nat → Nat) (w1 : World) (pw g cap len : Nat) (m : Int) (M : List NodeD) (bx : Nat) (Nk : List NoteD) (wr : World) (ρk : Nat → Nat) (vk : Value) (xk : NoteD) : Prop where
  wk : Wk ρk wr pw g cap len m M vk Nk
  turn : Turn ρ1 w1 wr
  agree : ∀ k, k < w1.heap.size → ρk k = ρ1 k
  box : TBox wr bx xk
  b4 : ρ1 bx = 4
  blt : bx < w1.heap.size
section
variable {ρ1 ρk : Nat → Nat} {w1 wr W W1 : World} {bx : Nat} {Nk : List NoteD} {vk v' : Value} {xk : NoteD}
theorem TellIn.keep (h : TellIn ρ1 w1 pw g cap len m M bx Nk wr ρk vk xk) (hb : Below wr.heap.size wr W) : TellIn ρ1 w1 pw g cap len m M bx Nk W ρk vk xk :=
  ⟨h.wk.keep hb, h.turn.keep hb, h.agree, h.box.keep hb, h.b4, h.blt⟩
theorem TellIn.at_ (h : TellIn ρ1 w1 pw g cap len m M bx Nk wr ρk vk xk) (z : Int) : TellIn ρ1 w1 pw g cap len m M bx Nk (wr.setCell ⟨bx, 1, none⟩ (.int .i64 z)) ρk vk (noteAt xk z) :=
  ⟨h.wk.other (by rw [h.agree bx h.blt, h.b4]) _ _, h.turn.setCell (.inr (by rw [h.b4]; decide)) _ _, h.agree, h.box.at_ z, h.b4, h.blt⟩
theorem TellIn.more (h : TellIn ρ1 w1 pw g cap len m M bx Nk W ρk vk xk) (hok : NoteOk xk) (ho : W1.ownsRow 0 62 9 v' (Nk.length + 1) ((Nk ++ [xk]).flatMap encO)) (hg : W.grownBy W1 vk.ownBlock) (hat : v'.ownBlock = vk.ownBlock ∨ v'.ownBlock = some W.heap.size) :
    TellIn ρ1 w1 pw g cap len m M bx (Nk ++ [xk]) (W1.setCell ⟨pw, 2, none⟩ v') (upd ρk v'.ownBlock 3) v' xk ∧ W1.cell? ⟨pw, 2, none⟩ = some vk ∧ W1.frozen? ⟨pw, 2, none⟩ = false := by
  have hb : ∀ b, v'.ownBlock = some b → vk.ownBlock = some b ∨ W.heap.size ≤ b := fun b e => by
    rcases hat with h1 | h1
    · exact .inl (h1.symm.trans e)
    · rw [h1] at e
      injection e with e
      exact .inr (by omega)
  have hs := h.turn.size
  have pne : some pw ≠ vk.ownBlock := fun e => by
    have h1 := h.wk.nrole pw e.symm
    have h2 := h.wk.prole
    omega
  have sp := hg.block pw h.wk.plt pne
  have b4 : ρk bx = 4 := by rw [h.agree bx h.blt, h.b4]
  have bne : some bx ≠ vk.ownBlock := fun e => by
    have h1 := h.wk.nrole bx e.symm
    omega
  have hbp : bx ≠ pw := fun e => by
    have h2 := h.wk.prole
    rw [← e] at h2
    omega
  refine ⟨⟨h.wk.note hok hg ho hb, ?_, fun k hk => ?_, ?_, h.b4, h.blt⟩, (World.cell?_of_block (w := W) (a := ⟨pw, 2, none⟩) sp).trans h.wk.c2, (World.frozen?_of_block (w := W) (a := ⟨pw, 2, none⟩) sp).trans (h.wk.pfree 2)⟩
  · refine (h.turn.grown hg (fun k e => ?_)).setCell ?_ _ _
    · rcases Nat.lt_or_ge k w1.heap.size with h1 | h1
      · right
        rw [← h.agree k h1, h.wk.nrole k e]
        decide
      · exact .inl h1
    · rcases Nat.lt_or_ge pw w1.heap.size with h1 | h1
      · right
        rw [← h.agree pw h1, h.wk.prole]
        decide
      · exact .inl h1
  · rw [← h.agree k hk]
    exact upd_old (fun b e => (hb b e).imp (h.wk.nrole b) id) k (by omega)
  · refine h.box.turn (by simpa [World.setCell] using hg.size) ?_
    rw [Below.heap_setCell _ _ _ bx hbp]
    exact hg.block bx h.box.lt bne
end
theorem NoteOk.at_ {x : NoteD} (h : NoteOk x) {z : Int} (hz : In64 z) : NoteOk (noteAt x z) := ⟨h.kind, hz, h.src, h.dst, h.name, h.old, h.new⟩
end
end Go.Proofs.YtbkhngoehoiccaaGreat
namespace Go.Proofs.YtbkhngoehoiccaaGreat
open Go.RowKit
section
variable {m : Int} {F G : List Core} {P : Nat → Core → Int} {K : Nat → Core → List Int} {D : Nat → Core → Int}
end
end Go.Proofs.YtbkhngoehoiccaaGreat
namespace Go.Proofs.YtbkhngoehoiccaaGreat
open Go.RowKit
section
variable {ρ : Nat → Nat} {pw g cap len : Nat} {m : Int} {M : List NodeD} {v : Value} {N : List NoteD}
theorem core_set2 {M : List NodeD} {n p : Nat} {x y : NodeD} {a : Option Addr} {l c : Nat} {ks : List Int} {q : Int} (hx : M[n]? = some x) (hy : M[p]? = some y) (hnp : n ≠ p) :
    Edit (coreL M) (coreL ((M.set p (withK y a l c ks)).set n (withP x q))) (fun j c => if j = n then q else c.parent) (fun j c => if j = p then ks else c.kids) (fun _ c => c.doc) := by
  refine ⟨by unfold coreL; simp, fun j z hz => ?_⟩
  obtain ⟨u, hu, rfl⟩ : ∃ u, M[j]? = some u ∧ u.core = z := by
    unfold coreL at hz
    rw [List.getElem?_map] at hz
    cases hm : M[j]? with
    | none => rw [hm] at hz; cases hz
    | some u => rw [hm] at hz; exact ⟨u, rfl, Option.some.inj hz⟩
  have hjl := (List.getElem?_eq_some_iff.1 hu).1
  unfold coreL
  rw [List.getElem?_map]
  by_cases e : j = n
  · subst e
    obtain rfl : x = u := Option.some.inj (hx.symm.trans hu)
    rw [List.getElem?_set_self (by rw [List.length_set]; exact hjl), if_pos rfl, if_neg hnp]
    rfl
  · rw [List.getElem?_set_ne (fun e2 => e e2.symm), if_neg e]
    by_cases e2 : j = p
    · subst e2
      obtain rfl : y = u := Option.some.inj (hy.symm.trans hu)
      rw [List.getElem?_set_self hjl, if_pos rfl]
      rfl
    · rw [List.getElem?_set_ne (fun e3 => e2 e3.symm), if_neg e2, hu]
      rfl
theorem in64_nat {n : Nat} (h : n ≤ 1000) : In64 (n : Int) := ⟨by omega, by omega⟩
end
end Go.Proofs.YtbkhngoehoiccaaGreat
namespace Go.Proofs.YtbkhngoehoiccaaGreat
open Go.RowKit Go.Extern.Stop Go.Stop Go.Extern
abbrev hdl (t : Nat) : Value := .pointer (some ⟨1, t, none⟩)
end Go.Proofs.YtbkhngoehoiccaaGreat
namespace Go.Proofs.YtbkhngoehoiccaaGreat
open Go.RowKit Go.Extern.Stop Go.Stop Go.Extern
end Go.Proofs.YtbkhngoehoiccaaGreat
namespace Go.Proofs.YtbkhngoehoiccaaGreat
open Go.RowKit
section
variable {m : Int} {F : List Core}
theorem top_none (h : rightF m F = true) {n : Nat} (hn : n < F.length) (hp : parentK F n = -1) (hk : kindK F n = 1 ∨ kindK F n = 2) : parS F n = none := by
  have hx : F[n]? = some F[n] := List.getElem?_eq_getElem hn
  rw [parentK_at hx] at hp
  rw [kindK_at hx] at hk
  refine parS_none ?_
  rw [nextUp_at hx]
  show (if F[n].parent = -1 then F[n].host else F[n].parent) = -1
  rw [if_pos hp]
  exact (right_node h hx).free (by omega)
theorem taken_doc (h : rightF m F = true) {n : Nat} (hn : n < F.length) (hp : parentK F n = -1) (hk : kindK F n = 1 ∨ kindK F n = 2) {d : Int} (hd : ∃ c, getC F d = some c ∧ c.kind = 0) : Taken m F (mvDoc F n d) n d :=
  ⟨h, hn, top_none h hn hp hk, by omega, hd, edF_edit _ _ _ _⟩
end
section
variable {ρ : Nat → Nat} {pw g cap len : Nat} {m : Int} {M : List NodeD} {v : Value} {N : List NoteD}
end
end Go.Proofs.YtbkhngoehoiccaaGreat
namespace Go.Proofs.YtbkhngoehoiccaaGreat
open Go.RowKit
section
variable {ρ : Nat → Nat} {pw g cap len : Nat} {m : Int} {M : List NodeD} {v : Value} {N : List NoteD}
def insAt (l : List Int) (b : Int) : Nat := if b = -1 then l.length else findN l b
theorem insAt_le (l : List Int) (b : Int) (hb : b = -1 ∨ b ∈ l) : insAt l b ≤ l.length := by
  unfold insAt
  by_cases e : b = -1
  · rw [if_pos e]; exact Nat.le_refl _
  · rw [if_neg e]; exact Nat.le_of_lt (findN_mem (hb.resolve_left e))
theorem insB_eq (l : List Int) (b n : Int) : l.take (insAt l b) ++ n :: l.drop (insAt l b) = insB l b n := by
  unfold insAt insB
  by_cases e : b = -1
  · rw [if_pos e, if_pos e, List.take_of_length_le (Nat.le_refl _), List.drop_eq_nil_of_le (Nat.le_refl _)]
  · rw [if_neg e, if_neg e]
set_option maxHeartbeats 8000000 in
set_option maxRecDepth 100000 in
theorem mstandP_any (w : World) (h : Wk ρ w pw g cap len m M v N) (hs : smallF M) (n p : Nat) (x y : NodeD) (hx : M[n]? = some x) (hy : M[p]? = some y) (hnp : n ≠ p) (b : Int) (hb : b = -1 ∨ b ∈ y.core.kids) :
    Calls Tryz.prog 129 #[ptrV pw, .int .i64 n, .int .i64 p, .int .i64 b] w (WkPost ρ w pw g cap len m fun M' N' => (∃ a c, M' = (M.set p (withK y a (y.kN + 1) c (insB y.core.kids b n))).set n (withP x p)) ∧ N' = N) := by
  have hl1k : len ≤ 1000 := by rw [← h.hlen]; exact hs.1
  have hn : n < len := by rw [← h.hlen]; exact (List.getElem?_eq_some_iff.1 hx).1
  have hpl : p < len := by rw [← h.hlen]; exact (List.getElem?_eq_some_iff.1 hy).1
  have hkl : y.core.kids.length = y.kN := (h.kidsRow hy).hlen
  have hk1k : y.kN ≤ 1000 := by rw [← hkl]; exact (hs.2 y (List.mem_of_getElem? hy)).1
  obtain ⟨i, hi⟩ : ∃ i, insAt y.core.kids b = i := ⟨_, rfl⟩
  have hil : i ≤ y.kN := by rw [← hkl, ← hi]; exact insAt_le _ _ hb
  have hnn : In64 (n : Int) := in64_nat (by omega)
  have hpp : In64 (p : Int) := in64_nat (by omega)
  have CX : Hid (b ≠ -1 → Calls Tryz.prog 139 #[.slice y.kA y.kN y.kC, .int .i64 b] w fun e w' => e = .returned (.int .i64 i) ∧ w = w') := Lib.hid (fun hne => by
    have h1 := findZ_mem (hb.resolve_left hne)
    have h2 : insAt y.core.kids b = findN y.core.kids b := by unfold insAt; rw [if_neg hne]
    have h3 : findZ y.core.kids b = (i : Int) := by rw [h1, ← h2, hi]
    rw [← h3]
    exact index_any _ _ _ _ _ w (h.kidsRow hy))
  have hIL : b = -1 → i = y.kN := fun e => by rw [← hi, ← hkl]; unfold insAt; rw [if_pos e]
  obtain ⟨WI, hWI, WK2, HBI, HCELL⟩ : ∃ WI, (w.alloc (.cells #[.int .i64 (n : Int)] 3)).drew = WI ∧ Hid (Wk ρ WI pw g cap len m M v N) ∧ Hid (Below w.heap.size w WI) ∧ Hid (WI.heap[w.heap.size]? = some (.cells #[.int .i64 (n : Int)] 3 (0, 0))) := by
    have hb2 : Below w.heap.size w (w.alloc (.cells #[.int .i64 (n : Int)] 3)).drew := ((Below.refl _ _).alloc (Nat.le_refl _) _).drew
    exact ⟨_, rfl, Lib.hid (h.keep hb2), Lib.hid hb2, Lib.hid (heap_alloc_new w _)⟩
  have CI : Hid (Calls Tryz.prog 140 #[.slice y.kA y.kN y.kC, .int .i64 i, .slice (some ⟨w.heap.size, 0, none⟩) 1 1] WI (InsPost 0 (.slice y.kA y.kN y.kC) y.kN (insB y.core.kids b n) WI)) := Lib.hid (by
    rw [← insB_eq, hi]
    exact insertI_any WI 0 y.kN i _ y.core.kids n w.heap.size (Nat.zero_le _) (WK2.out.kown p y hy) hil (by omega) HCELL.out (fun e => by
      have := own_block_lt (h.kown p y hy) e
      omega))
  have HKR : Hid (∀ b', Value.ownBlock (.slice y.kA y.kN y.kC) = some b' → ρ b' = p + 6) := Lib.hid (fun b' e => h.krole p y b' hy e)
  have HINK : Hid (∀ z ∈ insB y.core.kids b n, In64 z) := Lib.hid (fun z hz => by
    have hk := (h.fld y (List.mem_of_getElem? hy)).kids
    rw [← insB_eq] at hz
    rcases List.mem_append.1 hz with hz | hz
    · exact hk z (List.mem_of_mem_take hz)
    · rcases List.mem_cons.1 hz with rfl | hz
      · exact hnn
      · exact hk z (List.mem_of_mem_drop hz))
  have HW := Lib.hid h
  have HX := Lib.hid hx
  have HY := Lib.hid hy
  have HP64 := Lib.hid hpp
  have HWI := Lib.hid hWI
  have p0 := h.c0
  have y6 := (h.at_ hy).c6
  have p0a := fun o => (h.keep (below_box w o)).c0
  have y6a := fun o => ((h.keep (below_box w o)).at_ hy).c6
  have hl64 : (len : Int) ≤ 9223372036854775807 := by omega
  have hkn64 : (y.kN : Int) ≤ 9223372036854775807 := by omega
  clear h hs hx hy hkl hi hb hnn hpp hWI
  go_enter Tryz.func129, Tryz.ntmps129
  go_upto_if 23 with fail
  go_cut [9] (fun c wx => wx = w ∧ c = .int .i64 i)
  case first =>
    by_cases he : b = -1
    · have e1 : (b != -1) = false := by rw [he]; rfl
      have e2 := hIL he
      clear he
      go_wp2
      go_meet
      exact ⟨rfl, by rw [e2]⟩
    · have e1 : (b != -1) = true := bne_iff_ne.2 he
      have CX := CX.out he
      clear he
      go_wp2_with (go_at_call 139; (with_reducible refine CX.mono ?_); rintro e w3 ⟨rfl, rfl⟩)
      go_meet
      exact ⟨rfl, rfl⟩
  case rest =>
    obtain ⟨rfl, rfl⟩ := hcut
    go_upto_region 4 with fail
    go_region_with (go_at_call 140; rw [HWI.out]; (refine CI.out.mono ?_); rintro e w6 ⟨v6, rfl, ho6, hg6, hb6⟩; obtain ⟨g6, cap6, rfl⟩ := own_some ho6 (Nat.succ_pos _); have MID := WK2.out.mid hg6 (fun b' e => by rw [HKR.out b' e]; omega); have p0 := MID.c0; have f6 := MID.gfree (p * 10 + 6); have f5 := MID.gfree (n * 10 + 5); have c6 := MID.cells p y 6 _ HY.out rfl; have c5 := MID.cells n x 5 _ HX.out rfl; have hne : n * 10 + 5 ≠ p * 10 + 6 := (by omega); have HO6 := Lib.hid ho6; have HG6 := Lib.hid hg6; have HB6 := Lib.hid hb6; clear ho6 hg6 hb6 MID)
    all_goals go_wp2
    all_goals
      have W7 := WK2.out.setK HY.out HG6.out HO6.out HB6.out HINK.out
      have hxn : (M.set p (withK y (some ⟨g6, 0, none⟩) (y.kN + 1) cap6 (insB y.core.kids b n)))[n]? = some x := by rw [List.getElem?_set_ne (fun e => hnp e.symm)]; exact HX.out
      have W8 := W7.setP hxn HP64.out
      have hsz := HBI.out.size
      have T8 := (((Turn.of_below (ρ := ρ) HBI.out).grown HG6.out (fun k e => .inr (by rw [HKR.out k e]; omega))).setCell (b := g) (.inr (by rw [WK2.out.grole]; decide)) (p * 10 + 6) (.slice (some ⟨g6, 0, none⟩) (y.kN + 1) cap6)).setCell (b := g) (.inr (by rw [WK2.out.grole]; decide)) (n * 10 + 5) (.int .i64 (p : Int))
      exact bodyPost_ret (v := .tuple #[]) (by simp [results, Tryz.results129]) rfl ⟨rfl, _, _, v, N, W8, T8, upd_old (fun k e => (HB6.out k e).imp (HKR.out k) (fun h => Nat.le_trans hsz h)), ⟨_, _, rfl⟩, rfl⟩
theorem stand_core {n p : Nat} {x y : NodeD} (hx : M[n]? = some x) (hy : M[p]? = some y) (hnp : n ≠ p) {b : Int} {a : Option Addr} {l c : Nat} : coreL ((M.set p (withK y a l c (insB y.core.kids b n))).set n (withP x p)) = mvIn (coreL M) n p b := by
  refine ((core_set2 hx hy hnp).cong (fun j c hc => ⟨rfl, ?_, rfl⟩)).eq
  by_cases e : j = p
  · subst e
    rw [coreL_get hy] at hc
    rw [if_pos rfl, if_pos rfl, ← Option.some.inj hc]
  · rw [if_neg e, if_neg e]
end
end Go.Proofs.YtbkhngoehoiccaaGreat
namespace Go.Proofs.YtbkhngoehoiccaaGreat
open Go.RowKit
structure PutInv (m : Int) (F : List Core) (p : Nat) (l : List Int) (b : Int) : Prop where
  right : rightF m F = true
  lt : p < F.length
  kp : kindK F p ≠ 2
  once : l.Nodup
  ls : ∀ z ∈ l, ∃ q : Nat, z = q ∧ q < F.length ∧ (kindK F q = 1 ∨ kindK F q = 2)
  over : ∀ q : Nat, (q : Int) ∈ l → ¬ holdsT (parS F) q p
  root : kindK F p = 0 → (kidsK F p).length + l.length ≤ 1 ∧ ∀ k ∈ l, kindK F k = 1
  before : b = -1 ∨ (b ∈ kidsK F p ∧ b ∉ l)
section
variable {m : Int} {F G : List Core} {p : Nat} {l r : List Int} {b : Int}
theorem kidsK_edit {P : Nat → Core → Int} {K : Nat → Core → List Int} {D : Nat → Core → Int} (h : Edit F G P K D) {c : Core} (hc : F[p]? = some c) : kidsK G p = K p c := kidsK_get (h.at_ p c hc)
theorem PutInv.out (h : PutInv m F p l b) {q : Nat} (hq : (q : Int) ∈ l) (hp : parentK F q ≠ -1) : PutInv m (mvOut F q) p l b := by
  obtain ⟨q', e, hql, _⟩ := h.ls _ hq
  obtain rfl : q = q' := by omega
  have hx : F[q]? = some F[q] := List.getElem?_eq_getElem hql
  rw [parentK_at hx] at hp
  obtain ⟨a, ha1, ha2, ho⟩ := mvOut_out h.right hx hp
  obtain ⟨cp, hc⟩ : ∃ cp, F[p]? = some cp := ⟨_, List.getElem?_eq_getElem h.lt⟩
  have hk : kidsK (mvOut F q) p = if p = a then cp.kids.filter (fun z => z != (q : Int)) else cp.kids := kidsK_edit ho.ed hc
  have hk0 : kidsK F p = cp.kids := kidsK_get hc
  refine ⟨ho.rightG, by rw [ho.ed.len]; exact h.lt, by rw [ho.ed.kindK]; exact h.kp, h.once, fun z hz => ?_, fun t ht hh => ?_, fun e => ?_, ?_⟩
  · obtain ⟨t, h1, h2, h3⟩ := h.ls z hz
    exact ⟨t, h1, by rw [ho.ed.len]; exact h2, by rw [ho.ed.kindK]; exact h3⟩
  · obtain ⟨t', e, htl, _⟩ := h.ls _ ht
    obtain rfl : t = t' := by omega
    exact h.over t ht ((ho.over htl h.lt).1 hh).1
  · rw [ho.ed.kindK] at e
    obtain ⟨h1, h2⟩ := h.root e
    refine ⟨?_, fun k hk => by rw [ho.ed.kindK]; exact h2 k hk⟩
    rw [hk]
    rw [hk0] at h1
    split
    · exact Nat.le_trans (Nat.add_le_add_right (List.length_filter_le _ _) _) h1
    · exact h1
  · rcases h.before with e | ⟨h1, h2⟩
    · exact .inl e
    · refine .inr ⟨?_, h2⟩
      rw [hk]
      rw [hk0] at h1
      split
      · rw [List.mem_filter]
        exact ⟨h1, bne_iff_ne.2 (fun e => h2 (by rw [e]; exact hq))⟩
      · exact h1
theorem parS_same {F G : List Core} (h : ∀ j : Nat, nextUp G (j : Int) = nextUp F j) : parS G = parS F := by
  funext j
  unfold parS
  rw [h j]
theorem PutInv.doc (h : PutInv m F p l b) {q : Nat} (hq : (q : Int) ∈ l) (hp : parentK F q = -1) {d : Int} (hd : ∃ c, getC F d = some c ∧ c.kind = 0) : PutInv m (mvDoc F q d) p l b := by
  obtain ⟨q', e, hql, hqk⟩ := h.ls _ hq
  obtain rfl : q = q' := by omega
  have T := taken_doc h.right hql hp hqk hd
  obtain ⟨cp, hc⟩ : ∃ cp, F[p]? = some cp := ⟨_, List.getElem?_eq_getElem h.lt⟩
  have hk : kidsK (mvDoc F q d) p = kidsK F p := by rw [kidsK_edit T.ed hc, kidsK_get hc]
  have hpar := parS_same T.next
  exact ⟨T.rightG, by rw [T.ed.len]; exact h.lt, by rw [T.ed.kindK]; exact h.kp, h.once, fun z hz => by
    obtain ⟨t, h1, h2, h3⟩ := h.ls z hz
    exact ⟨t, h1, by rw [T.ed.len]; exact h2, by rw [T.ed.kindK]; exact h3⟩, fun t ht hh => h.over t ht (by rw [hpar] at hh; exact hh), fun e => by
    rw [T.ed.kindK] at e
    rw [hk]
    obtain ⟨h1, h2⟩ := h.root e
    exact ⟨h1, fun k hk => by rw [T.ed.kindK]; exact h2 k hk⟩, by rw [hk]; exact h.before⟩
theorem PutInv.put {q : Nat} (h : PutInv m F p ((q : Int) :: r) b) (hp : parentK F q = -1) (hd : docK F q = docK F p) : PutInv m (mvIn F q p b) p r b := by
  have hq : (q : Int) ∈ (q : Int) :: r := List.mem_cons_self
  obtain ⟨q', e, hql, hqk⟩ := h.ls _ hq
  obtain rfl : q = q' := by omega
  have hx : F[q]? = some F[q] := List.getElem?_eq_getElem hql
  obtain ⟨cp, hc⟩ : ∃ cp, F[p]? = some cp := ⟨_, List.getElem?_eq_getElem h.lt⟩
  have hov := h.over q hq
  have hqp : q ≠ p := fun e => hov (by rw [e]; exact holds_refl p)
  have hk0 : kidsK F p = cp.kids := kidsK_get hc
  have notin : ∀ (j : Nat) (c : Core), F[j]? = some c → (q : Int) ∉ c.kids := fun j c hj hm => by
    obtain ⟨c', h1, _, h3, _⟩ := (right_node h.right hj).kids _ hm
    rw [getC_nat, hx] at h1
    rw [parentK_at hx] at hp
    rw [← Option.some.inj h1, hp] at h3
    omega
  have hb : b = -1 ∨ b ∈ cp.kids := by
    rcases h.before with e | ⟨h1, _⟩
    · exact .inl e
    · rw [hk0] at h1
      exact .inr h1
  have hfil : ∀ (j : Nat) (c : Core), F[j]? = some c → c.kids.filter (fun z => !([(q : Int)] : List Int).contains z) = c.kids := fun j c hj => List.filter_eq_self.2 (fun z hz => by
    have : z ≠ (q : Int) := fun e => notin j c hj (by rw [← e]; exact hz)
    simpa using this)
  have hedi := edF_edit F (fun j c => if j = q then (p : Int) else c.parent) (fun j c => if j = p then insB c.kids b q else c.kids) (fun _ c => c.doc)
  have hIn : PutIn m F (mvIn F q p b) [(q : Int)] p cp (cp.kids.take (insAt cp.kids b)) (cp.kids.drop (insAt cp.kids b)) (fun j => decide ((j : Int) ∈ allI F q)) := by
    refine ⟨h.right, hc, by rw [← kindK_at hc]; exact h.kp, by simp, fun z hz => ?_, fun t ht => ?_, ?_, fun e => ?_, fun j hj => ?_, hedi.cong (fun j c hj => ⟨?_, ?_, ?_⟩)⟩
    · rw [List.mem_singleton] at hz
      exact ⟨q, F[q], hz, hx, by rw [← kindK_at hx]; exact hqk⟩
    · have : t = q := Int.ofNat_inj.1 (by simpa using ht)
      rw [this]
      exact hov
    · rw [List.take_append_drop]
      exact (hfil p _ hc).symm
    · have h1 := h.root (by rw [kindK_at hc]; exact e)
      rw [hk0, List.length_cons] at h1
      have hnil : cp.kids = [] := List.eq_nil_of_length_eq_zero (by omega)
      rw [hnil]
      simp only [List.take_nil, List.drop_nil, List.nil_append, List.append_nil, List.length_singleton]
      exact ⟨Nat.le_refl _, fun k hk => by rw [List.mem_singleton] at hk; rw [hk]; exact h1.2 _ hq⟩
    · rw [decide_eq_true_iff, mem_all h.right hql hj]
      constructor
      · exact fun hh => ⟨q, by simp, hh⟩
      · rintro ⟨t, ht, hh⟩
        have : t = q := Int.ofNat_inj.1 (by simpa using ht)
        rw [← this]
        exact hh
    · by_cases e : j = q
      · subst e; simp
      · rw [if_neg e, if_neg (by simpa using (fun h2 => e (by omega) : (j : Int) ≠ (q : Int)))]
    · by_cases e : j = p
      · subst e
        rw [hc] at hj
        rw [if_pos rfl, if_pos rfl, ← Option.some.inj hj, ← insB_eq]
        simp
      · rw [if_neg e, if_neg e, hfil j c hj]
    · by_cases e : (j : Int) ∈ allI F q
      · have hjl := (List.getElem?_eq_some_iff.1 hj).1
        have h1 := doc_all h.right hql e hjl
        rw [hd, docK_at hj, docK_at hc] at h1
        simp only [decide_eq_true e, if_true]
        exact h1
      · simp only [decide_eq_false e, Bool.false_eq_true, if_false]
  have hed : Edit F (mvIn F q p b) (fun j c => if j = q then (p : Int) else c.parent) (fun j c => if j = p then insB c.kids b q else c.kids) (fun _ c => c.doc) := hedi
  have hkG : kidsK (mvIn F q p b) p = insB cp.kids b q := by rw [kidsK_edit hed hc]; exact if_pos rfl
  have hup : ∀ (k c a : Nat), c < F.length → ¬ holdsT (parS F) q c → upN (parS (mvIn F q p b)) k c = some a → upN (parS F) k c = some a := by
    intro k
    induction k with
    | zero => exact fun c a _ _ hu => hu
    | succ k ih =>
      intro c a hcl hn hu
      unfold upN at hu ⊢
      have hcq : c ≠ q := fun e => hn (by rw [e]; exact holds_refl q)
      have hpc : parS (mvIn F q p b) c = parS F c := by
        unfold parS
        have h1 := hIn.next hcl
        rw [if_neg (by simpa using (fun h2 => hcq (by omega) : (c : Int) ≠ (q : Int)))] at h1
        rw [h1]
      rw [hpc] at hu
      cases hq2 : parS F c with
      | none => rw [hq2] at hu; cases hu
      | some t =>
        rw [hq2] at hu
        exact ih t a (parS_next h.right hcl hq2).2 (fun hh => hn (holds_trans hh (holds_par hq2))) hu
  refine ⟨hIn.rightG, by rw [hed.len]; exact h.lt, by rw [hed.kindK]; exact h.kp, (List.nodup_cons.1 h.once).2, fun z hz => ?_, fun t ht hh => ?_, fun e => ?_, ?_⟩
  · obtain ⟨t, h1, h2, h3⟩ := h.ls z (List.mem_cons_of_mem _ hz)
    exact ⟨t, h1, by rw [hed.len]; exact h2, by rw [hed.kindK]; exact h3⟩
  · obtain ⟨k, hk⟩ := hh
    exact h.over t (List.mem_cons_of_mem _ ht) ⟨k, hup k p t h.lt hov hk⟩
  · rw [hed.kindK] at e
    obtain ⟨h1, h2⟩ := h.root e
    refine ⟨?_, fun k hk => by rw [hed.kindK]; exact h2 k (List.mem_cons_of_mem _ hk)⟩
    rw [hkG, ← insB_eq]
    rw [hk0, List.length_cons] at h1
    simp only [List.length_append, List.length_cons, List.length_take, List.length_drop]
    omega
  · rcases h.before with e | ⟨h1, h2⟩
    · exact .inl e
    · refine .inr ⟨?_, fun hh => h2 (List.mem_cons_of_mem _ hh)⟩
      rw [hkG, ← insB_eq]
      rw [hk0, ← List.take_append_drop (insAt cp.kids b) cp.kids] at h1
      rcases List.mem_append.1 h1 with h1 | h1
      · exact List.mem_append.2 (.inl h1)
      · exact List.mem_append.2 (.inr (List.mem_cons_of_mem _ h1))
end
end Go.Proofs.YtbkhngoehoiccaaGreat
namespace Go.Proofs.YtbkhngoehoiccaaGreat
open Go.RowKit
end Go.Proofs.YtbkhngoehoiccaaGreat
namespace Go.Proofs.YtbkhngoehoiccaaGreat
open Go.RowKit
section
variable {m : Int}
end
section
variable {ρ : Nat → Nat} {pw g cap len : Nat} {m : Int} {M : List NodeD} {v : Value} {N : List NoteD}
end
end Go.Proofs.YtbkhngoehoiccaaGreat
namespace Go.Proofs.YtbkhngoehoiccaaGreat
open Go.RowKit
theorem own_stay {w V : World} {base : Nat} {e : TypeId} {size n : Nat} {v : Value} {xs : List Value} {r : Option Nat} (h : w.ownsRow base e size v n xs) (hg : w.grownBy V r) (hr : ∀ k, v.ownBlock = some k → some k ≠ r) : V.ownsRow base e size v n xs := by
  refine ⟨h.1, ?_⟩
  rcases h.2 with h0 | ⟨g, cap, cur, hv, hb, hh, h1, h2, h3, h4⟩
  · exact .inl h0
  · have hlt : g < w.heap.size := by
      rcases Nat.lt_or_ge g w.heap.size with h | h
      · exact h
      · rw [Array.getElem?_eq_none h] at hh; cases hh
    exact .inr ⟨g, cap, cur, hv, hb, (hg.block g hlt (hr g (by rw [hv]; rfl))).trans hh, h1, h2, h3, h4⟩
theorem grown_by {w V : World} (hb : Below w.heap.size w V) (r : Option Nat) : w.grownBy V r := ⟨hb.os, hb.tape, hb.output, hb.size, fun k hk _ => hb.block k hk⟩
theorem own_n {α : Type} {enc : α → List Value} {size : Nat} (henc : ∀ x, (enc x).length = size) (hpos : 0 < size) {w : World} {base : Nat} {e : TypeId} {v : Value} {n : Nat} {L : List α} (h : w.ownsRow base e size v n (L.flatMap enc)) : L.length = n := by
  have h1 := h.1
  rw [flat_len (fun x _ => henc x)] at h1
  exact Nat.eq_of_mul_eq_mul_right hpos h1
theorem LRow.of_own {α : Type} {enc : α → List Value} {size : Nat} {ok : α → Prop} (henc : ∀ x, (enc x).length = size) (hpos : 0 < size) {w : World} {base : Nat} {e : TypeId} {a : Option Addr} {n c : Nat} {L : List α} (h : w.ownsRow base e size (.slice a n c) n (L.flatMap enc)) (hok : ∀ x ∈ L, ok x) :
    LRow enc size ok w a n c L ∧ (∀ b o, a = some ⟨b, o, none⟩ → base ≤ b ∧ o = 0) := by
  obtain ⟨a', c', e', h2, h3⟩ := SRow.of_own (fun x _ => henc x) (own_n henc hpos h) h
  injection e' with e1 _ e3
  subst e1; subst e3
  rcases h.2 with ⟨hv, _⟩ | ⟨g, cap', cur, hv, _⟩
  · injection hv with e1 e2 e3
    subst e1; subst e2; subst e3
    exact ⟨⟨h2, hok, fun _ => rfl⟩, fun b o e => by cases e⟩
  · injection hv with e1 e2 e3
    subst e1
    exact ⟨⟨h2, hok, fun e => by cases e⟩, fun b o e => ⟨h3 b o e, by injection e with e; injection e with _ e; exact e.symm⟩⟩
def SHd.own {α : Type} (x : SHd α) : Option Nat := (Value.slice x.a x.n x.c).ownBlock
structure OwnRows {α : Type} (enc : α → List Value) (size : Nat) (ok : α → Prop) (base : Nat) (th te : TypeId) (W : World) (a : Option Addr) (n c : Nat) (T : List (SHd α)) : Prop where
  row : W.ownsRow base th 1 (.slice a n c) n (T.flatMap encH)
  each : ∀ x ∈ T, W.ownsRow base te size (.slice x.a x.n x.c) x.n (x.l.flatMap enc)
  ok : ∀ x ∈ T, ∀ y ∈ x.l, ok y
  apart : ∀ (i j : Nat) (x y : SHd α), i ≠ j → T[i]? = some x → T[j]? = some y → ∀ k, x.own = some k → some k ≠ y.own
section
variable {α : Type} {enc : α → List Value} {size : Nat} {ok : α → Prop} {base : Nat} {th te : TypeId} {W V : World} {a : Option Addr} {n c : Nat} {T : List (SHd α)}
theorem OwnRows.stay (h : OwnRows enc size ok base th te W a n c T) {r : Option Nat} (hg : W.grownBy V r) (h1 : ∀ k, (Value.slice a n c).ownBlock = some k → some k ≠ r) (h2 : ∀ x ∈ T, ∀ k, x.own = some k → some k ≠ r) : OwnRows enc size ok base th te V a n c T :=
  ⟨own_stay h.row hg h1, fun x hx => own_stay (h.each x hx) hg (h2 x hx), h.ok, h.apart⟩
theorem OwnRows.keep (h : OwnRows enc size ok base th te W a n c T) (hb : Below W.heap.size W V) : OwnRows enc size ok base th te V a n c T :=
  h.stay (grown_by hb none) (fun _ _ e => by cases e) (fun _ _ _ _ e => by cases e)
theorem OwnRows.hlen (h : OwnRows enc size ok base th te W a n c T) : T.length = n := own_n (fun x => encH_len x) (by decide) h.row
theorem OwnRows.hrow (h : OwnRows enc size ok base th te W a n c T) (henc : ∀ x, (enc x).length = size) (hpos : 0 < size) : HRow enc size ok W a n c T ∧ (∀ b o, a = some ⟨b, o, none⟩ → base ≤ b ∧ o = 0) ∧ ∀ x ∈ T, ∀ b o, x.a = some ⟨b, o, none⟩ → base ≤ b ∧ o = 0 := by
  have h1 := LRow.of_own (ok := fun _ : SHd α => True) (fun x => encH_len x) (by decide) h.row (fun _ _ => trivial)
  exact ⟨⟨h1.1.row, fun x hx => (LRow.of_own henc hpos (h.each x hx) (h.ok x hx)).1, h1.1.hnil⟩, h1.2, fun x hx => (LRow.of_own henc hpos (h.each x hx) (h.ok x hx)).2⟩
theorem OwnRows.lt (h : OwnRows enc size ok base th te W a n c T) {x : SHd α} (hx : x ∈ T) {k : Nat} (hk : x.own = some k) : base ≤ k ∧ k < W.heap.size := (h.each x hx).lt k hk
end
theorem info_parts11 {t : TypeId} {z : Value} {s b : Nat} (h : (Tryz.prog.info? t).map (fun i => (i.zero, i.size, i.bytes)) = some (some z, s, b)) : ∃ i, Tryz.prog.info? t = some i ∧ i.zero = some z ∧ i.size = s ∧ i.bytes = b := by
  cases hi : Tryz.prog.info? t with
  | none => rw [hi] at h; simp at h
  | some i =>
    rw [hi] at h
    simp at h
    exact ⟨i, rfl, h.1, h.2.1, h.2.2⟩
def OwnP {α : Type} (enc : α → List Value) (size : Nat) (te : TypeId) (w : World) (L : List α) (e : Ending) (w' : World) : Prop := ∃ a c, e = .returned (.slice a L.length c) ∧ w'.ownsRow w.heap.size te size (.slice a L.length c) L.length (L.flatMap enc) ∧ Below w.heap.size w w'
theorem own_form11 {w : World} {base : Nat} {e : TypeId} {size : Nat} {v : Value} {n : Nat} {xs : List Value} (h : w.ownsRow base e size v n xs) : ∃ a c, v = .slice a n c := by
  rcases h.2 with ⟨rfl, h0⟩ | ⟨g, cap, cur, rfl, _⟩
  · exact ⟨none, 0, by rw [h0]⟩
  · exact ⟨_, _, rfl⟩
theorem own_p {α : Type} {enc : α → List Value} {size : Nat} {te : TypeId} {w w' : World} {L : List α} {v : Value} (h : w'.ownsRow w.heap.size te size v L.length (L.flatMap enc)) (hb : Below w.heap.size w w') : OwnP enc size te w L (.returned v) w' := by
  obtain ⟨a, c, rfl⟩ := own_form11 h
  exact ⟨a, c, rfl, h, hb⟩
end Go.Proofs.YtbkhngoehoiccaaGreat
namespace Go.Proofs.YtbkhngoehoiccaaGreat
open Go.RowKit
structure CBox (W : World) (g : Nat) (cs : List Value) : Prop where
  lt : g < W.heap.size
  c : ∀ j v, cs[j]? = some v → W.cell? ⟨g, j, none⟩ = some v
  f : ∀ j, W.frozen? ⟨g, j, none⟩ = false
section
variable {W V : World} {g : Nat} {cs : List Value}
theorem CBox.keep (h : CBox W g cs) (hb : Below W.heap.size W V) : CBox V g cs :=
  ⟨Nat.lt_of_lt_of_le h.lt hb.size, fun j v hv => (hb.cell (p := ⟨g, j, none⟩) h.lt).trans (h.c j v hv), fun j => (hb.frozen (p := ⟨g, j, none⟩) h.lt).trans (h.f j)⟩
theorem CBox.drew (h : CBox W g cs) : CBox W.drew g cs := h.keep (Below.refl _ _).drew
theorem CBox.new (w : World) (cs : Array Value) (t : TypeId) : CBox (w.alloc (.cells cs t)) w.heap.size cs.toList := by
  refine ⟨by simp, fun j v hv => ?_, fun j => ?_⟩
  · have := cell_of_row (w.alloc (.cells cs t)) w.heap.size j cs t (0, 0) (heap_alloc_new w _)
    rw [this, ← Array.getElem?_toList]
    exact hv
  · have := heap_alloc_new w (.cells cs t)
    simp only [World.frozen?, this]
    rfl
theorem CBox.put (h : CBox W g cs) (j : Nat) (u : Value) (hj : j < cs.length) : CBox (W.setCell ⟨g, j, none⟩ u) g (cs.set j u) := by
  refine ⟨by have := h.lt; simpa [World.setCell] using this, fun i v hv => ?_, fun i => by rw [World.frozen?_setCell]; exact h.f i⟩
  by_cases e : j = i
  · subst e
    rw [List.getElem?_set_self hj] at hv
    injection hv with hv
    subst hv
    exact World.cell?_setCell_same _ _ _ (h.c j _ (List.getElem?_eq_getElem hj))
  · rw [List.getElem?_set_ne e] at hv
    rw [World.cell?_setCell_other _ _ _ _ (fun e2 => by injection e2 with _ e2; exact e e2)]
    exact h.c i v hv
theorem CBox.off (h : CBox W g cs) {b : Nat} (hb : b ≠ g) (o : Nat) (u : Value) : CBox (W.setCell ⟨b, o, none⟩ u) g cs :=
  ⟨by have := h.lt; simpa [World.setCell] using this, fun i v hv => by
    rw [World.cell?_setCell_other _ _ _ _ (fun e2 => by injection e2 with e2 _; exact hb e2)]
    exact h.c i v hv, fun i => by rw [World.frozen?_setCell]; exact h.f i⟩
end
theorem box_below (w : World) (B : Obj) : Below w.heap.size w (w.alloc B) := (Below.refl _ _).alloc (Nat.le_refl _) B
theorem boxes1 (w : World) (c0 : Array Value) (t0 : TypeId) :
    ∃ W, w.alloc (.cells c0 t0) = W ∧ CBox W w.heap.size c0.toList ∧ W.heap.size = w.heap.size + 1 ∧ Below w.heap.size w W :=
  ⟨_, rfl, CBox.new _ _ _, by simp, box_below _ _⟩
theorem boxes2 (w : World) (c0 c1 : Array Value) (t0 t1 : TypeId) :
    ∃ W, (w.alloc (.cells c0 t0)).alloc (.cells c1 t1) = W ∧ CBox W w.heap.size c0.toList ∧ CBox W (w.heap.size + 1) c1.toList ∧ W.heap.size = w.heap.size + 1 + 1 ∧ Below w.heap.size w W := by
  obtain ⟨V, e, h0, hs, hb⟩ := boxes1 w c0 t0
  have h1 := CBox.new V c1 t1
  have b1 := box_below V (.cells c1 t1)
  rw [hs] at h1
  exact ⟨_, by rw [e], h0.keep b1, h1, by simp [hs], hb.trans (b1.mono hb.size)⟩
theorem boxes3 (w : World) (c0 c1 c2 : Array Value) (t0 t1 t2 : TypeId) :
    ∃ W, ((w.alloc (.cells c0 t0)).alloc (.cells c1 t1)).alloc (.cells c2 t2) = W ∧ CBox W w.heap.size c0.toList ∧ CBox W (w.heap.size + 1) c1.toList ∧ CBox W (w.heap.size + 1 + 1) c2.toList ∧ W.heap.size = w.heap.size + 1 + 1 + 1 ∧ Below w.heap.size w W := by
  obtain ⟨V, e, h0, h1, hs, hb⟩ := boxes2 w c0 c1 t0 t1
  have h2 := CBox.new V c2 t2
  have b1 := box_below V (.cells c2 t2)
  rw [hs] at h2
  exact ⟨_, by rw [e], h0.keep b1, h1.keep b1, h2, by simp [hs], hb.trans (b1.mono hb.size)⟩
theorem boxes4 (w : World) (c0 c1 c2 c3 : Array Value) (t0 t1 t2 t3 : TypeId) :
    ∃ W, (((w.alloc (.cells c0 t0)).alloc (.cells c1 t1)).alloc (.cells c2 t2)).alloc (.cells c3 t3) = W ∧ CBox W w.heap.size c0.toList ∧ CBox W (w.heap.size + 1) c1.toList ∧ CBox W (w.heap.size + 1 + 1) c2.toList ∧ CBox W (w.heap.size + 1 + 1 + 1) c3.toList ∧ W.heap.size = w.heap.size + 1 + 1 + 1 + 1 ∧ Below w.heap.size w W := by
  obtain ⟨V, e, h0, h1, h2, hs, hb⟩ := boxes3 w c0 c1 c2 t0 t1 t2
  have h3 := CBox.new V c3 t3
  have b1 := box_below V (.cells c3 t3)
  rw [hs] at h3
  exact ⟨_, by rw [e], h0.keep b1, h1.keep b1, h2.keep b1, h3, by simp [hs], hb.trans (b1.mono hb.size)⟩
theorem boxes5 (w : World) (c0 c1 c2 c3 c4 : Array Value) (t0 t1 t2 t3 t4 : TypeId) :
    ∃ W, ((((w.alloc (.cells c0 t0)).alloc (.cells c1 t1)).alloc (.cells c2 t2)).alloc (.cells c3 t3)).alloc (.cells c4 t4) = W ∧ CBox W w.heap.size c0.toList ∧ CBox W (w.heap.size + 1) c1.toList ∧ CBox W (w.heap.size + 1 + 1) c2.toList ∧ CBox W (w.heap.size + 1 + 1 + 1) c3.toList ∧ CBox W (w.heap.size + 1 + 1 + 1 + 1) c4.toList ∧ W.heap.size = w.heap.size + 1 + 1 + 1 + 1 + 1 ∧ Below w.heap.size w W := by
  obtain ⟨V, e, h0, h1, h2, h3, hs, hb⟩ := boxes4 w c0 c1 c2 c3 t0 t1 t2 t3
  have h4 := CBox.new V c4 t4
  have b1 := box_below V (.cells c4 t4)
  rw [hs] at h4
  exact ⟨_, by rw [e], h0.keep b1, h1.keep b1, h2.keep b1, h3.keep b1, h4, by simp [hs], hb.trans (b1.mono hb.size)⟩
theorem boxes8 (w : World) (c0 c1 c2 c3 c4 c5 c6 c7 : Array Value) (t0 t1 t2 t3 t4 t5 t6 t7 : TypeId) :
    ∃ W, (((((((w.alloc (.cells c0 t0)).alloc (.cells c1 t1)).alloc (.cells c2 t2)).alloc (.cells c3 t3)).alloc (.cells c4 t4)).alloc (.cells c5 t5)).alloc (.cells c6 t6)).alloc (.cells c7 t7) = W ∧ (CBox W w.heap.size c0.toList ∧ CBox W (w.heap.size + 1) c1.toList ∧ CBox W (w.heap.size + 1 + 1) c2.toList ∧ CBox W (w.heap.size + 1 + 1 + 1) c3.toList ∧ CBox W (w.heap.size + 1 + 1 + 1 + 1) c4.toList ∧ CBox W (w.heap.size + 1 + 1 + 1 + 1 + 1) c5.toList ∧ CBox W (w.heap.size + 1 + 1 + 1 + 1 + 1 + 1) c6.toList ∧ CBox W (w.heap.size + 1 + 1 + 1 + 1 + 1 + 1 + 1) c7.toList) ∧ W.heap.size = w.heap.size + 1 + 1 + 1 + 1 + 1 + 1 + 1 + 1 ∧ Below w.heap.size w W := by
  obtain ⟨V, e, h0, h1, h2, h3, h4, hs, hb⟩ := boxes5 w c0 c1 c2 c3 c4 t0 t1 t2 t3 t4
  obtain ⟨X, e2, g0, g1, g2, hs2, hb2⟩ := boxes3 V c5 c6 c7 t5 t6 t7
  rw [hs] at g0 g1 g2 hs2
  exact ⟨X, by rw [e, e2], ⟨h0.keep hb2, h1.keep hb2, h2.keep hb2, h3.keep hb2, h4.keep hb2, g0, g1, g2⟩, hs2, hb.trans (hb2.mono hb.size)⟩
theorem CBox.row {α : Type} {enc : α → List Value} {size : Nat} {W : World} {g : Nat} {L : List α} {n : Nat} (h : CBox W g (L.flatMap enc)) (henc : ∀ x, (enc x).length = size) (hl : L.length = n) (hn : n ≤ maxLen) : SRow enc size W (some ⟨g, 0, none⟩) n n L := by
  refine ⟨hl, Nat.le_refl _, hn, fun x _ => henc x, .inr ⟨g, 0, rfl, h.lt, fun i x j v hx hv => ?_⟩⟩
  have hj : j < size := by
    have := (List.getElem?_eq_some_iff.1 hv).1
    rwa [henc x] at this
  rw [Nat.zero_add]
  refine h.c _ _ ?_
  rw [flat_get (fun y _ => henc y) hx hj]
  exact hv
end Go.Proofs.YtbkhngoehoiccaaGreat
namespace Go.Proofs.YtbkhngoehoiccaaGreat
open Go.RowKit
abbrev BL := List UInt8
def strB (l : BL) : ByteArray := ⟨l.toArray⟩
theorem strB_data (l : BL) : (strB l).data.toList = l := rfl
theorem strB_size (l : BL) : (strB l).size = l.length := Lib.size_eq _
def skipM (l p : BL) : Option BL := if p.isPrefixOf l then some (l.drop p.length) else none
def okM (l : BL) : Bool := decide (l.length ≤ 100000) && l.all (fun b => decide (b.toNat < 128))
def endM (l : BL) : Nat := (Lib.indexAny l [33, 32, 61, 62]).toNat
def qM : BL → BL → Option (BL × BL)
  | _, [] => none
  | acc, b :: r => if b = 34 then some (acc, r) else if b = 92 then (match r with | [] => none | c :: r2 => if c = 34 ∨ c = 92 then qM (acc ++ [c]) r2 else none) else qM (acc ++ [b]) r
def quoM (l : BL) : Option (BL × BL) := if l.length ≤ 100000 then (match skipM l [34] with | some r => qM [] r | none => none) else none
def wordM (l : BL) : Option (BL × BL) := if okM l then some (l.take (endM l), l.drop (endM l)) else none
def attrM (l : BL) : Option ((ByteArray × ByteArray) × BL) :=
  match wordM l with
  | none => none
  | some (n, l1) => match skipM l1 [61] with
    | none => none
    | some l2 => match quoM l2 with
      | none => none
      | some (v, l3) => some ((strB n, strB v), l3)
def attrsM : Nat → BL → AL → Option (AL × BL)
  | 0, _, _ => none
  | k + 1, l, acc => match skipM l [32] with
    | none => some (acc, l)
    | some l1 => match attrM l1 with
      | none => none
      | some (a, l2) => if acc.length < 1000 then attrsM k l2 (acc ++ [a]) else none
def isM (l : BL) : Option (BL × BL) :=
  match skipM l [33] with
  | none => some ([], l)
  | some l1 => match wordM l1 with
    | none => none
    | some (s, l2) => if s = [] then none else some (s, l2)
abbrev nodeC (kind : Int) (name is data : BL) (attrs : AL) (doc : Int) : Core := ⟨kind, strB name, strB is, strB data, attrs, 0, [], 0, 0, doc⟩
def headM (doc : Int) (l : BL) : Option (BL × Core × BL) :=
  match wordM l with
  | none => none
  | some (n, l1) => match isM l1 with
    | none => none
    | some (s, l2) => match attrsM (l2.length + 1) l2 [] with
      | none => none
      | some (a, l3) => match skipM l3 [62] with
        | none => none
        | some l4 => if n.length ≤ 1000 then some (n, nodeC 1 n s [] a doc, l4) else none
def addM (F : List Core) (c : Core) : Option (List Core) := if F.length < 1000 then some (F ++ [aloneC c F.length]) else none
def hangM (F : List Core) (host sh : Nat) : List Core := (F.modify host (fun c => ⟨c.kind, c.name, c.is, c.data, c.attrs, c.parent, c.kids, c.host, sh, c.doc⟩)).modify sh (fun c => ⟨c.kind, c.name, c.is, c.data, c.attrs, c.parent, c.kids, host, c.under, c.doc⟩)
inductive Job where
  | node
  | kids (p : Nat) (stop : BL)
def readM (doc : Int) : Nat → Job → BL → List Core → Option (BL × List Core)
  | 0, _, _, _ => none
  | k + 1, .node, l, F =>
    match skipM l [60] with
    | some l1 => (match headM doc l1 with
      | none => none
      | some (n, c, l2) => match addM F c with
        | none => none
        | some F1 => match skipM l2 [123] with
          | none => readM doc k (.kids F.length ([60, 47] ++ n ++ [62])) l2 F1
          | some l3 => match addM F1 (nodeC 4 [] [] [] [] doc) with
            | none => none
            | some F2 => match readM doc k (.kids (F.length + 1) [125]) l3 (hangM F2 F.length (F.length + 1)) with
              | none => none
              | some (l4, F3) => readM doc k (.kids F.length ([60, 47] ++ n ++ [62])) l4 F3)
    | none => match skipM l [91] with
      | some l1 => (match addM F (nodeC 3 [] [] [] [] doc) with
        | none => none
        | some F1 => readM doc k (.kids F.length [93]) l1 F1)
      | none => match quoM l with
        | none => none
        | some (d, l1) => match addM F (nodeC 2 [] [] d [] doc) with
          | none => none
          | some F1 => some (l1, F1)
  | k + 1, .kids p stop, l, F =>
    match skipM l stop with
    | some l1 => some (l1, F)
    | none => match readM doc k .node l F with
      | none => none
      | some (l1, F1) => if (kidsK F1 p).length < 1000 ∧ p < F.length ∧ F.length < F1.length then readM doc k (.kids p stop) l1 (mvIn F1 F.length p (-1)) else none
end Go.Proofs.YtbkhngoehoiccaaGreat
