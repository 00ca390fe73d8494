/- Texts joined in build order: MoveMath MoveTell MoveMath2. -/
import Derived.Test.YtkomeijlljcdgaaGreatP24
import Derived.Test.YtkomeijlljcdgaaGreatP29
import Derived.Test.YtkomeijlljcdgaaGreatP30
import Derived.Test.YtkomeijlljcdgaaGreatP22
import Derived.Test.YtkomeijlljcdgaaGreatP27
import Derived.Deep.RegionLaw
import Derived.Deep.DeepCutAuto
import Derived.Test.YtkomeijlljcdgaaGreatP05
import Derived.Test.YtkomeijlljcdgaaGreatP15
/- Package move, as mathematics: a node goes out, is taken over, is put; what is told. No program. -/
namespace Go.Proofs.YtkomeijlljcdgaaGreat
open Go.RowKit
/-- A forest with other parents, children, documents. -/
def edF (F : List Core) (P : Nat → Core → Int) (K : Nat → Core → List Int) (D : Nat → Core → Int) : List Core := F.mapIdx fun j c => edC c (P j c) (K j c) (D j c)
theorem edF_edit (F : List Core) (P : Nat → Core → Int) (K : Nat → Core → List Int) (D : Nat → Core → Int) : Edit F (edF F P K D) P K D :=
  ⟨by unfold edF; simp, fun j c hc => by unfold edF; rw [List.getElem?_mapIdx, hc]; rfl⟩
section
variable {F G : List Core} {P P' : Nat → Core → Int} {K K' : Nat → Core → List Int} {D D' : Nat → Core → Int}
theorem Edit.eq (h : Edit F G P K D) : G = edF F P K D := by
  apply List.ext_getElem?
  intro i
  by_cases hi : i < F.length
  · have hc : F[i]? = some F[i] := List.getElem?_eq_getElem hi
    rw [h.at_ i _ hc, (edF_edit F P K D).at_ i _ hc]
  · rw [List.getElem?_eq_none (by rw [h.len]; omega), List.getElem?_eq_none (by rw [(edF_edit F P K D).len]; omega)]
theorem Edit.cong (h : Edit F G P K D) (hh : ∀ (j : Nat) c, F[j]? = some c → P j c = P' j c ∧ K j c = K' j c ∧ D j c = D' j c) : Edit F G P' K' D' :=
  ⟨h.len, fun j c hc => by obtain ⟨e1, e2, e3⟩ := hh j c hc; rw [h.at_ j c hc, e1, e2, e3]⟩
theorem edC_self (c : Core) : edC c c.parent c.kids c.doc = c := rfl
theorem edF_id (hh : ∀ (j : Nat) c, F[j]? = some c → P j c = c.parent ∧ K j c = c.kids ∧ D j c = c.doc) : edF F P K D = F :=
  ((Edit.cong (G := F) (P := fun _ c => c.parent) (K := fun _ c => c.kids) (D := fun _ c => c.doc) ⟨rfl, fun j c hc => hc⟩ (fun j c hc => by obtain ⟨e1, e2, e3⟩ := hh j c hc; exact ⟨e1.symm, e2.symm, e3.symm⟩)).eq).symm
end
/-- A node goes out of its parent. -/
def mvOut (F : List Core) (n : Nat) : List Core := edF F (fun j c => if j = n then -1 else c.parent) (fun j c => if (j : Int) = parentK F n then c.kids.filter (fun z => z != (n : Int)) else c.kids) (fun _ c => c.doc)
/-- A node, and all that it is over, get another document. -/
def mvDoc (F : List Core) (n : Nat) (d : Int) : List Core := edF F (fun _ c => c.parent) (fun _ c => c.kids) (fun j c => if (j : Int) ∈ allI F n then d else c.doc)
/-- A child more, ahead of another one, or behind all. -/
def insB (l : List Int) (b n : Int) : List Int := if b = -1 then l ++ [n] else l.take (findN l b) ++ n :: l.drop (findN l b)
/-- A node without a parent becomes a child. -/
def mvIn (F : List Core) (n p : Nat) (b : Int) : List Core := edF F (fun j c => if j = n then (p : Int) else c.parent) (fun j c => if j = p then insB c.kids b n else c.kids) (fun _ c => c.doc)
abbrev note (k : Int) : NoteD := ⟨k, 0, 0, 0, ⟨#[]⟩, false, false, ⟨#[]⟩, ⟨#[]⟩⟩
def noteAt (x : NoteD) (z : Int) : NoteD := ⟨x.kind, z, x.src, x.dst, x.name, x.had, x.has, x.old, x.new⟩
/-- A note of each element in full order. -/
def tellN (F : List Core) (n : Nat) (x : NoteD) : List NoteD := ((allI F n).filter (fun z => kindK F z == 1)).map (noteAt x)
def connF (F : List Core) (n : Nat) : Bool := kindK F (topF F n) == 0
abbrev St := List Core × List NoteD
def outS (S : St) (n : Nat) : St := if parentK S.1 n = -1 then S else (mvOut S.1 n, if connF S.1 n then S.2 ++ tellN S.1 n (note 2) else S.2)
def docK (F : List Core) (n : Int) : Int := match getC F n with | some x => x.doc | none => 0
def overS (S : St) (n : Nat) (d : Int) : St := let T := outS S n; if docK T.1 n = d then T else (mvDoc T.1 n d, T.2 ++ tellN T.1 n ⟨3, 0, docK T.1 n, d, ⟨#[]⟩, false, false, ⟨#[]⟩, ⟨#[]⟩⟩)
def inS (p : Nat) (b : Int) (S : St) (q : Nat) : St := let T := overS S q (docK S.1 p); let G := mvIn T.1 q p b; (G, if connF G q then T.2 ++ tellN G q (note 1) else T.2)
def putS (S : St) (n p : Nat) (b : Int) : St :=
  let l := (partsZ S.1 n).map Int.toNat
  let T := if kindK S.1 n = 3 then l.foldl outS S else S
  l.foldl (inS p b) T
/-! ### What is so of forests that are right -/
section
variable {m : Int} {F G : List Core}
theorem right_len400 (h : rightF m F = true) : F.length ≤ 400 := by
  obtain ⟨⟨_, h2, h3, _⟩, _⟩ := (rightF_iff m F).1 h
  omega
theorem right_kids (h : rightF m F = true) {i : Nat} {x : Core} (hx : F[i]? = some x) : x.kids.length ≤ 400 := by
  have T := tree_of_right h
  have e : kidsF F i = x.kids.map Int.toNat := by unfold kidsF; rw [hx]
  have h1 := nodup_lt F.length (kidsF F i) (T.nodup i) (fun k hk => T.kid_lt i k hk)
  rw [e, List.length_map] at h1
  exact Nat.le_trans h1 (right_len400 h)
theorem small_edit {M M' : List NodeD} {P : Nat → Core → Int} {K : Nat → Core → List Int} {D : Nat → Core → Int} (hs : smallF M) (he : Edit (coreL M) (coreL M') P K D) (hr : rightF m (coreL M') = true) : smallF M' := by
  refine ⟨?_, fun x hx => ?_⟩
  · have := he.len
    rw [coreL_len, coreL_len] at this
    rw [this]
    exact hs.1
  · obtain ⟨i, hi⟩ := List.getElem?_of_mem hx
    have hc := coreL_get hi
    obtain ⟨c, h1, h2⟩ := he.back hc
    obtain ⟨y, hy, rfl⟩ : ∃ y ∈ M, y.core = c := by
      have := List.mem_of_getElem? h1
      unfold coreL at this
      obtain ⟨y, h3, h4⟩ := List.mem_map.1 this
      exact ⟨y, h3, h4⟩
    have h5 := hs.2 y hy
    refine ⟨Nat.le_trans (right_kids hr hc) (by decide), ?_, ?_⟩
    · rw [h2]; exact h5.2.1
    · rw [h2]; exact h5.2.2
theorem docK_at {n : Nat} {x : Core} (hx : F[n]? = some x) : docK F (n : Int) = x.doc := by unfold docK; rw [getC_nat, hx]
/-- A node that has a parent goes out: what is known of it. -/
theorem mvOut_out (h : rightF m F = true) {n : Nat} {x : Core} (hx : F[n]? = some x) (hp : x.parent ≠ -1) : ∃ p : Nat, x.parent = p ∧ p < F.length ∧ Out m F (mvOut F n) n p x := by
  obtain ⟨p, h1, h2, _⟩ := right_par h hx hp
  refine ⟨p, h1, h2, h, hx, h1, (edF_edit F _ _ _).cong (fun j c hc => ⟨rfl, ?_, rfl⟩)⟩
  rw [parentK_at hx, h1]
  by_cases e : j = p
  · rw [if_pos e, if_pos (by omega)]
  · rw [if_neg e, if_neg (by omega)]
theorem mem_all (h : rightF m F = true) {n j : Nat} (hn : n < F.length) (hj : j < F.length) : (j : Int) ∈ allI F n ↔ holdsT (parS F) n j := by
  rw [mem_allI, Int.toNat_natCast]
  exact (treeS h).mem_ord _ _ hn (by omega) j hj
/-- All in one tree have one document. -/
theorem doc_up (h : rightF m F = true) {j q : Nat} (hj : j < F.length) (hq : parS F j = some q) : docK F j = docK F q := by
  have hc : F[j]? = some F[j] := List.getElem?_eq_getElem hj
  have N := right_node h hc
  obtain ⟨hn, hql⟩ := parS_next h hj hq
  have hcq : F[q]? = some F[q] := List.getElem?_eq_getElem hql
  rw [docK_at hc, docK_at hcq]
  rw [nextUp_at hc] at hn
  by_cases hp : F[j].parent = -1
  · have hn : F[j].host = (q : Int) := by
      have : (if F[j].parent = -1 then F[j].host else F[j].parent) = (q : Int) := hn
      rwa [if_pos hp] at this
    have hk : F[j].kind = 4 := by
      by_cases e : F[j].kind = 4
      · exact e
      · have := N.free e
        omega
    obtain ⟨d, h1, _, _, h4⟩ := N.host hk
    rw [hn, getC_nat, hcq] at h1
    rw [Option.some.inj h1]
    exact h4.symm
  · have hn : F[j].parent = (q : Int) := by
      have : (if F[j].parent = -1 then F[j].host else F[j].parent) = (q : Int) := hn
      rwa [if_neg hp] at this
    rcases N.par with e | ⟨_, d, h1, _, h3⟩
    · exact absurd e hp
    · rw [hn, getC_nat, hcq] at h1
      obtain rfl := Option.some.inj h1
      obtain ⟨c, h4, _, _, h6⟩ := (right_node h hcq).kids _ h3
      rw [getC_nat, hc] at h4
      rw [Option.some.inj h4]
      exact h6
theorem doc_over (h : rightF m F = true) {a : Nat} : ∀ (k b : Nat), b < F.length → upN (parS F) k b = some a → docK F b = docK F a
  | 0, b, _, hu => by rw [Option.some.inj hu]
  | k + 1, b, hb, hu => by
    unfold upN at hu
    cases hq : parS F b with
    | none => rw [hq] at hu; cases hu
    | some q =>
      rw [hq] at hu
      rw [doc_up h hb hq]
      exact doc_over h k q (parS_next h hb hq).2 hu
theorem doc_all (h : rightF m F = true) {n j : Nat} (hn : n < F.length) (hj : (j : Int) ∈ allI F n) (hjl : j < F.length) : docK F j = docK F n := by
  obtain ⟨k, hk⟩ := (mem_all h hn hjl).1 hj
  exact doc_over h k j hjl hk
/-- A node without a parent is taken over: it stays right. -/
structure Taken (m : Int) (F G : List Core) (n : Nat) (d : Int) : Prop where
  right : rightF m F = true
  lt : n < F.length
  top : parS F n = none
  kind : kindK F n ≠ 0
  doc : ∃ c, getC F d = some c ∧ c.kind = 0
  ed : Edit F G (fun _ c => c.parent) (fun _ c => c.kids) (fun j c => if (j : Int) ∈ allI F n then d else c.doc)
section
variable {n : Nat} {d : Int}
theorem Taken.up (h : Taken m F G n d) {j q : Nat} (hj : j < F.length) (hq : parS F j = some q) : (j : Int) ∈ allI F n ↔ (q : Int) ∈ allI F n := by
  have hql := (parS_next h.right hj hq).2
  rw [mem_all h.right h.lt hj, mem_all h.right h.lt hql]
  constructor
  · intro hh
    rcases holds_up hh with e | ⟨s, e1, e2⟩
    · rw [← e, h.top] at hq
      cases hq
    · rw [hq] at e1
      rw [Option.some.inj e1]
      exact e2
  · exact fun hh => holds_trans hh (holds_par hq)
theorem Taken.node (h : Taken m F G n d) {j : Nat} {y : Core} (hy : G[j]? = some y) : NodeP G j y := by
  obtain ⟨c, hc, rfl⟩ := h.ed.back hy
  have hjl := (List.getElem?_eq_some_iff.1 hc).1
  have N := right_node h.right hc
  refine ⟨N.kind, ?_, fun e => ?_, ?_, N.once, fun k hk => ?_, N.leaf, fun e => ?_, fun e => ?_, N.free, ?_, N.text⟩
  · show ∃ d', getC G (if (j : Int) ∈ allI F n then d else c.doc) = some d' ∧ d'.kind = 0
    split
    · obtain ⟨d', h1, h2⟩ := h.doc
      exact ⟨_, h.ed.getC h1, h2⟩
    · obtain ⟨d', h1, h2⟩ := N.doc
      exact ⟨_, h.ed.getC h1, h2⟩
  · show (if (j : Int) ∈ allI F n then d else c.doc) = (j : Int)
    have e : c.kind = 0 := e
    have hnm : ¬ (j : Int) ∈ allI F n := fun hm => by
      rcases holds_up ((mem_all h.right h.lt hjl).1 hm) with e1 | ⟨s, e1, _⟩
      · exact h.kind (by rw [e1, kindK_at hc]; exact e)
      · have hn := (parS_next h.right hjl e1).1
        rw [nextUp_at hc] at hn
        have hn2 : (if c.parent = -1 then c.host else c.parent) = (s : Int) := hn
        have hpar : c.parent = -1 := by
          rcases N.par with h3 | ⟨h3, _⟩
          · exact h3
          · omega
        rw [if_pos hpar, N.free (by omega)] at hn2
        omega
    rw [if_neg hnm]
    exact N.own e
  · rcases N.par with h1 | ⟨h1, q, h2, h3, h4⟩
    · exact .inl h1
    · exact .inr ⟨h1, _, h.ed.getC h2, h3, h4⟩
  · obtain ⟨c', h1, h2, h3, h4⟩ := N.kids k hk
    obtain ⟨g0, g1, g2⟩ := getC_some h1
    have hkn : ((k.toNat : Nat) : Int) = k := by omega
    refine ⟨_, h.ed.getC h1, h2, h3, ?_⟩
    show (if ((k.toNat : Nat) : Int) ∈ allI F n then d else c'.doc) = if (j : Int) ∈ allI F n then d else c.doc
    have hu := h.up g1 (parS_parent g2 h3)
    by_cases e : (j : Int) ∈ allI F n
    · rw [if_pos e, if_pos (hu.2 e)]
    · rw [if_neg e, if_neg (fun e2 => e (hu.1 e2)), h4]
  · obtain ⟨h1, h2⟩ := N.root e
    exact ⟨h1, fun k hk => by rw [h.ed.kindK]; exact h2 k hk⟩
  · obtain ⟨d', h1, h2, h3, h4⟩ := N.host e
    obtain ⟨g0, g1, g2⟩ := getC_some h1
    refine ⟨_, h.ed.getC h1, h2, h3, ?_⟩
    show (if ((c.host.toNat : Nat) : Int) ∈ allI F n then d else d'.doc) = if (j : Int) ∈ allI F n then d else c.doc
    have e4 : c.kind = 4 := e
    have hpar : c.parent = -1 := by
      rcases N.par with h5 | ⟨h5, _⟩
      · exact h5
      · omega
    have hu := h.up hjl (parS_host hc hpar (show c.host = ((c.host.toNat : Nat) : Int) by omega))
    by_cases e : (j : Int) ∈ allI F n
    · rw [if_pos e, if_pos (hu.1 e)]
    · rw [if_neg e, if_neg (fun e2 => e (hu.2 e2)), h4]
  · rcases N.under with h1 | ⟨h1, u, h2, h3, h4⟩
    · exact .inl h1
    · exact .inr ⟨h1, _, h.ed.getC h2, h3, h4⟩
theorem Taken.next (h : Taken m F G n d) (j : Nat) : nextUp G (j : Int) = nextUp F j := by
  by_cases hj : j < F.length
  · have hc : F[j]? = some F[j] := List.getElem?_eq_getElem hj
    rw [h.ed.next hc, nextUp_at hc]
    rfl
  · unfold nextUp
    rw [getC_nat, getC_nat, List.getElem?_eq_none (by rw [h.ed.len]; omega), List.getElem?_eq_none (by omega)]
theorem Taken.rightG (h : Taken m F G n d) : rightF m G = true := by
  obtain ⟨⟨h1, h2, h3, h4⟩, _, _⟩ := (rightF_iff m F).1 h.right
  refine right_of h1 h2 (by rw [h.ed.len]; exact h3) (h.ed.head h4) (fun i y hy => h.node hy) (rankF F) (fun i hi => ?_)
  rw [h.ed.len] at hi ⊢
  rw [h.next]
  exact rank_next h.right hi
end
end
end Go.Proofs.YtkomeijlljcdgaaGreat
/- Package move: connected, tell. -/
namespace Go.Proofs.YtkomeijlljcdgaaGreat
open Go.RowKit
abbrev ptrV (b : Nat) : Value := .pointer (some ⟨b, 0, none⟩)
abbrev workV (b : Nat) : Value := .agg #[.pointer (some ⟨b, 0, none⟩)]
theorem note_info : (Tryz.prog.info? 185).map (fun i => (i.zero, i.size, i.bytes)) = some (some (.agg #[.int .i64 0, .int .i64 0, .int .i64 0, .int .i64 0, .string ⟨#[]⟩, .bool false, .bool false, .string ⟨#[]⟩, .string ⟨#[]⟩]), 9, 88) := by kernel_rfl
section
variable {ρ : Nat → Nat} {pw g cap len : Nat} {m : Int} {M : List NodeD} {v : Value} {N : List NoteD}
theorem top_at (h : rightF m (coreL M) = true) {n : Nat} (hn : n < M.length) : ∃ (t : Nat) (x : NodeD), topF (coreL M) n = t ∧ M[t]? = some x ∧ connF (coreL M) n = (x.core.kind == 0) := by
  have ht := topF_lt h (show n < (coreL M).length by rw [coreL_len]; exact hn)
  rw [coreL_len] at ht
  refine ⟨_, M[topF (coreL M) n], rfl, List.getElem?_eq_getElem ht, ?_⟩
  unfold connF
  rw [kindK_at (coreL_get (List.getElem?_eq_getElem ht))]
/-- The notes of the first k of a row of nodes. -/
def toldN (F : List Core) (l : List Int) (x : NoteD) (k : Nat) : List NoteD := ((l.take k).filter (fun z => kindK F z == 1)).map (noteAt x)
theorem toldN_step {F : List Core} {l : List Int} {x : NoteD} {k : Nat} {z : Int} (hz : l[k]? = some z) : toldN F l x (k + 1) = toldN F l x k ++ if kindK F z == 1 then [noteAt x z] else [] := by
  unfold toldN
  rw [List.take_add_one, hz, List.filter_append, List.map_append]
  congr 1
  simp only [Option.toList_some, List.filter_cons, List.filter_nil]
  split <;> rfl
theorem toldN_len {F : List Core} {l : List Int} {x : NoteD} {k : Nat} : (toldN F l x k).length ≤ l.length := by
  unfold toldN
  rw [List.length_map]
  exact Nat.le_trans (List.length_filter_le _ _) (by rw [List.length_take]; omega)
theorem toldN_all {F : List Core} {n : Nat} {x : NoteD} {k : Nat} (hk : (allI F n).length ≤ k) : toldN F (allI F n) x k = tellN F n x := by
  unfold toldN tellN
  rw [List.take_of_length_le hk]
abbrev noteB (x : NoteD) : Obj := .cells #[.int .i64 x.kind, .int .i64 x.node, .int .i64 x.src, .int .i64 x.dst, .string x.name, .bool x.had, .bool x.has, .string x.old, .string x.new] 185
/-- A note in a box. -/
structure TBox (W : World) (b : Nat) (x : NoteD) : Prop where
  lt : b < W.heap.size
  c : ∀ j u, (encO x)[j]? = some u → W.cell? ⟨b, j, none⟩ = some u
  f : ∀ j, W.frozen? ⟨b, j, none⟩ = false
theorem TBox.new (W : World) (x : NoteD) : TBox (W.alloc (noteB x)) W.heap.size x :=
  ⟨by simp, fun j u hu => by rw [cell_of_row (W.alloc (noteB x)) W.heap.size j _ 185 (0, 0) (heap_alloc_new W _)]; simpa [encO] using hu, fun j => row_free (heap_alloc_new W (noteB x)) j⟩
theorem TBox.keep {W W2 : World} {b : Nat} {x : NoteD} (h : TBox W b x) (hb : Below W.heap.size W W2) : TBox W2 b x :=
  ⟨Nat.lt_of_lt_of_le h.lt hb.size, fun j u hu => (hb.cell (p := ⟨b, j, none⟩) h.lt).trans (h.c j u hu), fun j => (hb.frozen (p := ⟨b, j, none⟩) h.lt).trans (h.f j)⟩
theorem TBox.at_ {W : World} {b : Nat} {x : NoteD} (h : TBox W b x) (z : Int) : TBox (W.setCell ⟨b, 1, none⟩ (.int .i64 z)) b (noteAt x z) := by
  refine ⟨by simpa [World.setCell] using h.lt, fun j u hu => ?_, fun j => by rw [World.frozen?_setCell]; exact h.f j⟩
  by_cases e : j = 1
  · subst e
    have hu : some (Value.int .i64 z) = some u := hu
    rw [← Option.some.inj hu]
    exact World.cell?_setCell_same _ _ _ (h.c 1 _ rfl)
  · rw [World.cell?_setCell_other _ _ _ _ (fun e' => by injection e' with _ e'; omega)]
    refine h.c j u ?_
    rw [show encO (noteAt x z) = (encO x).set 1 (.int .i64 z) from rfl, List.getElem?_set_ne (fun e2 => e e2.symm)] at hu
    exact hu
/-- A box elsewhere, while the work goes on. -/
theorem TBox.turn {W W2 : World} {b : Nat} {x : NoteD} (h : TBox W b x) (hs : W.heap.size ≤ W2.heap.size) (hb : W2.heap[b]? = W.heap[b]?) : TBox W2 b x :=
  ⟨Nat.lt_of_lt_of_le h.lt hs, fun j u hu => (World.cell?_of_block (w := W) (a := ⟨b, j, none⟩) hb).trans (h.c j u hu), fun j => (World.frozen?_of_block (w := W) (a := ⟨b, j, none⟩) hb).trans (h.f j)⟩
/-- What a piece of work leaves. -/
def WkPost (ρ : Nat → Nat) (w : World) (pw g cap len : Nat) (m : Int) (Q : List NodeD → List NoteD → Prop) (e : Ending) (w' : World) : Prop :=
  e = .returned (.tuple #[]) ∧ ∃ ρ' M' v' N', Wk ρ' w' pw g cap len m M' v' N' ∧ Turn ρ w w' ∧ (∀ k, k < w.heap.size → ρ' k = ρ k) ∧ Q M' N'
theorem own_some {w : World} {base : Nat} {e : TypeId} {size n : Nat} {v : Value} {xs : List Value} (h : w.ownsRow base e size v n xs) (hn : 0 < n) : ∃ g cap, v = .slice (some ⟨g, 0, none⟩) n cap := by
  rcases h.2 with ⟨_, h0⟩ | ⟨g, cap, cur, hv, _⟩
  · omega
  · exact ⟨g, cap, hv⟩
theorem note_one (W : World) (x : NoteD) : SRow encO 9 (W.alloc (noteB x)) (some ⟨W.heap.size, 0, none⟩) 1 1 [x] := own_one (size := 9) W 185 x #[.int .i64 x.kind, .int .i64 x.node, .int .i64 x.src, .int .i64 x.dst, .string x.name, .bool x.had, .bool x.has, .string x.old, .string x.new] rfl rfl
/-- While notes are told: the work, and the box with the note. -/
structure TellIn (ρ1 : Nat → Nat) (w1 : World) (pw g cap len : Nat) (m : Int) (M : List NodeD) (bx : Nat) (Nk : List NoteD) (wr : World) (ρk : Nat → Nat) (vk : Value) (xk : NoteD) : Prop where
  wk : Wk ρk wr pw g cap len m M vk Nk
  turn : Turn ρ1 w1 wr
  agree : ∀ k, k < w1.heap.size → ρk k = ρ1 k
  box : TBox wr bx xk
  b4 : ρ1 bx = 4
  blt : bx < w1.heap.size
section
variable {ρ1 ρk : Nat → Nat} {w1 wr W W1 : World} {bx : Nat} {Nk : List NoteD} {vk v' : Value} {xk : NoteD}
theorem TellIn.keep (h : TellIn ρ1 w1 pw g cap len m M bx Nk wr ρk vk xk) (hb : Below wr.heap.size wr W) : TellIn ρ1 w1 pw g cap len m M bx Nk W ρk vk xk :=
  ⟨h.wk.keep hb, h.turn.keep hb, h.agree, h.box.keep hb, h.b4, h.blt⟩
theorem TellIn.at_ (h : TellIn ρ1 w1 pw g cap len m M bx Nk wr ρk vk xk) (z : Int) : TellIn ρ1 w1 pw g cap len m M bx Nk (wr.setCell ⟨bx, 1, none⟩ (.int .i64 z)) ρk vk (noteAt xk z) :=
  ⟨h.wk.other (by rw [h.agree bx h.blt, h.b4]) _ _, h.turn.setCell (.inr (by rw [h.b4]; decide)) _ _, h.agree, h.box.at_ z, h.b4, h.blt⟩
theorem TellIn.more (h : TellIn ρ1 w1 pw g cap len m M bx Nk W ρk vk xk) (hok : NoteOk xk) (ho : W1.ownsRow 0 185 9 v' (Nk.length + 1) ((Nk ++ [xk]).flatMap encO)) (hg : W.grownBy W1 vk.ownBlock) (hat : v'.ownBlock = vk.ownBlock ∨ v'.ownBlock = some W.heap.size) :
    TellIn ρ1 w1 pw g cap len m M bx (Nk ++ [xk]) (W1.setCell ⟨pw, 2, none⟩ v') (upd ρk v'.ownBlock 3) v' xk ∧ W1.cell? ⟨pw, 2, none⟩ = some vk ∧ W1.frozen? ⟨pw, 2, none⟩ = false := by
  have hb : ∀ b, v'.ownBlock = some b → vk.ownBlock = some b ∨ W.heap.size ≤ b := fun b e => by
    rcases hat with h1 | h1
    · exact .inl (h1.symm.trans e)
    · rw [h1] at e
      injection e with e
      exact .inr (by omega)
  have hs := h.turn.size
  have pne : some pw ≠ vk.ownBlock := fun e => by
    have h1 := h.wk.nrole pw e.symm
    have h2 := h.wk.prole
    omega
  have sp := hg.block pw h.wk.plt pne
  have b4 : ρk bx = 4 := by rw [h.agree bx h.blt, h.b4]
  have bne : some bx ≠ vk.ownBlock := fun e => by
    have h1 := h.wk.nrole bx e.symm
    omega
  have hbp : bx ≠ pw := fun e => by
    have h2 := h.wk.prole
    rw [← e] at h2
    omega
  refine ⟨⟨h.wk.note hok hg ho hb, ?_, fun k hk => ?_, ?_, h.b4, h.blt⟩, (World.cell?_of_block (w := W) (a := ⟨pw, 2, none⟩) sp).trans h.wk.c2, (World.frozen?_of_block (w := W) (a := ⟨pw, 2, none⟩) sp).trans (h.wk.pfree 2)⟩
  · refine (h.turn.grown hg (fun k e => ?_)).setCell ?_ _ _
    · rcases Nat.lt_or_ge k w1.heap.size with h1 | h1
      · right
        rw [← h.agree k h1, h.wk.nrole k e]
        decide
      · exact .inl h1
    · rcases Nat.lt_or_ge pw w1.heap.size with h1 | h1
      · right
        rw [← h.agree pw h1, h.wk.prole]
        decide
      · exact .inl h1
  · rw [← h.agree k hk]
    exact upd_old (fun b e => (hb b e).imp (h.wk.nrole b) id) k (by omega)
  · refine h.box.turn (by simpa [World.setCell] using hg.size) ?_
    rw [Below.heap_setCell _ _ _ bx hbp]
    exact hg.block bx h.box.lt bne
end
theorem NoteOk.at_ {x : NoteD} (h : NoteOk x) {z : Int} (hz : In64 z) : NoteOk (noteAt x z) := ⟨h.kind, hz, h.src, h.dst, h.name, h.old, h.new⟩
theorem all_in {m : Int} {F : List Core} (hr : rightF m F = true) {n : Nat} (hn : n < F.length) : ∀ z ∈ allI F (n : Int), ∃ t : Nat, z = t ∧ t < F.length := ordB_in (sh := true) hr hn
end
end Go.Proofs.YtkomeijlljcdgaaGreat
/- Package move, as mathematics: what stands under a node stays as it is when that goes. No program. -/
namespace Go.Proofs.YtkomeijlljcdgaaGreat
open Go.RowKit
section
variable {m : Int} {F G : List Core} {P : Nat → Core → Int} {K : Nat → Core → List Int} {D : Nat → Core → Int}
theorem ordN_congr (h : rightF m F = true) : ∀ (f i : Nat), i < F.length → (∀ j, j < F.length → holdsT (parS F) i j → kidsS G j = kidsS F j) → ordN (kidsS G) f i = ordN (kidsS F) f i
  | 0, _, _, _ => rfl
  | f + 1, i, hi, hk => by
    have T := treeS h
    show i :: (kidsS G i).flatMap (ordN (kidsS G) f) = i :: (kidsS F i).flatMap (ordN (kidsS F) f)
    rw [hk i hi (holds_refl i)]
    congr 1
    exact flat_congr (fun k hkk => ordN_congr h f k (T.kid_lt i k hkk) (fun j hj hh => hk j hj (holds_trans (holds_par (T.kid_par i k hkk)) hh)))
theorem allI_congr (h : rightF m F = true) (hl : G.length = F.length) {n : Nat} (hn : n < F.length) (hk : ∀ j, j < F.length → holdsT (parS F) n j → kidsS G j = kidsS F j) : allI G n = allI F n := by
  unfold allI allF
  rw [Int.toNat_natCast, hl, ordN_congr h (F.length + 1) n hn hk]
theorem edit_undS (h : Edit F G P K D) (j : Nat) : undS G j = undS F j := by
  unfold undS
  by_cases hj : j < F.length
  · have hc : F[j]? = some F[j] := List.getElem?_eq_getElem hj
    rw [h.at_ j _ hc, hc]
    rfl
  · rw [List.getElem?_eq_none (by rw [h.len]; omega), List.getElem?_eq_none (by omega)]
theorem edit_kidsS (h : Edit F G P K D) {j : Nat} {c : Core} (hc : F[j]? = some c) (hk : K j c = c.kids) : kidsS G j = kidsS F j := by
  unfold kidsS
  rw [edit_undS h j]
  congr 1
  unfold kidsF
  rw [h.at_ j c hc, hc]
  show (K j c).map Int.toNat = c.kids.map Int.toNat
  rw [hk]
theorem tellN_congr (h : Edit F G P K D) {n : Nat} (ha : allI G n = allI F n) (x : NoteD) : tellN G n x = tellN F n x := by
  unfold tellN
  rw [ha]
  congr 1
  exact List.filter_congr (fun z _ => by rw [h.kindK])
theorem allI_out (h : rightF m F = true) {n : Nat} {x : Core} (hx : F[n]? = some x) (hp : x.parent ≠ -1) : allI (mvOut F n) n = allI F n := by
  obtain ⟨p, hpp, hpl, ho⟩ := mvOut_out h hx hp
  have hn := (List.getElem?_eq_some_iff.1 hx).1
  refine allI_congr h ho.ed.len hn (fun j hj hh => ?_)
  have hc : F[j]? = some F[j] := List.getElem?_eq_getElem hj
  refine edit_kidsS ho.ed hc ?_
  by_cases e : j = p
  · subst e
    have hpar : parS F n = some j := parS_parent hx hpp
    have e2 := (treeS h).holds_anti hn hj hh (holds_par hpar)
    have := (treeS h).rank_up j n hn hpar
    rw [e2] at this
    omega
  · exact if_neg e
theorem tellN_out (h : rightF m F = true) {n : Nat} {x : Core} (hx : F[n]? = some x) (hp : x.parent ≠ -1) (y : NoteD) : tellN (mvOut F n) n y = tellN F n y := tellN_congr (edF_edit F _ _ _) (allI_out h hx hp) y
theorem allI_doc (h : rightF m F = true) {n : Nat} (hn : n < F.length) (d : Int) : allI (mvDoc F n d) n = allI F n :=
  allI_congr h (edF_edit F _ _ _).len hn (fun _ hj _ => edit_kidsS (edF_edit F _ _ _) (List.getElem?_eq_getElem hj) rfl)
theorem tellN_doc (h : rightF m F = true) {n : Nat} (hn : n < F.length) (d : Int) (y : NoteD) : tellN (mvDoc F n d) n y = tellN F n y := tellN_congr (edF_edit F _ _ _) (allI_doc h hn d) y
theorem tellN_len (h : rightF m F = true) {n : Nat} (hn : n < F.length) (y : NoteD) : (tellN F n y).length ≤ 400 := by
  unfold tellN
  rw [List.length_map]
  exact Nat.le_trans (List.length_filter_le _ _) (Nat.le_trans (allI_len h hn) (right_len400 h))
end
end Go.Proofs.YtkomeijlljcdgaaGreat
