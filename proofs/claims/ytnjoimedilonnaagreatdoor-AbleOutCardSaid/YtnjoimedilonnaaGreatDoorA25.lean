/- Texts joined in build order: MoveMath. -/
import Derived.Test.YtnjoimedilonnaaGreatDoorA21
import Derived.Test.YtnjoimedilonnaaGreatDoorA24
import Derived.Test.YtnjoimedilonnaaGreatDoorA23
namespace Go.Proofs.YtnjoimedilonnaaGreatDoor
open Go.RowKit
def edF (F : List Core) (P : Nat → Core → Int) (K : Nat → Core → List Int) (D : Nat → Core → Int) : List Core := F.mapIdx fun j c => edC c (P j c) (K j c) (D j c)
theorem edF_edit (F : List Core) (P : Nat → Core → Int) (K : Nat → Core → List Int) (D : Nat → Core → Int) : Edit F (edF F P K D) P K D :=
  ⟨by unfold edF; simp, fun j c hc => by unfold edF; rw [List.getElem?_mapIdx, hc]; rfl⟩
section
variable {F G : List Core} {P P' : Nat → Core → Int} {K K' : Nat → Core → List Int} {D D' : Nat → Core → Int}
theorem Edit.eq (h : Edit F G P K D) : G = edF F P K D := by
  apply List.ext_getElem?
  intro i
  by_cases hi : i < F.length
  · have hc : F[i]? = some F[i] := List.getElem?_eq_getElem hi
    rw [h.at_ i _ hc, (edF_edit F P K D).at_ i _ hc]
  · rw [List.getElem?_eq_none (by rw [h.len]; omega), List.getElem?_eq_none (by rw [(edF_edit F P K D).len]; omega)]
theorem Edit.cong (h : Edit F G P K D) (hh : ∀ (j : Nat) c, F[j]? = some c → P j c = P' j c ∧ K j c = K' j c ∧ D j c = D' j c) : Edit F G P' K' D' :=
  ⟨h.len, fun j c hc => by obtain ⟨e1, e2, e3⟩ := hh j c hc; rw [h.at_ j c hc, e1, e2, e3]⟩
end
def mvOut (F : List Core) (n : Nat) : List Core := edF F (fun j c => if j = n then -1 else c.parent) (fun j c => if (j : Int) = parentK F n then c.kids.filter (fun z => z != (n : Int)) else c.kids) (fun _ c => c.doc)
def mvDoc (F : List Core) (n : Nat) (d : Int) : List Core := edF F (fun _ c => c.parent) (fun _ c => c.kids) (fun j c => if (j : Int) ∈ allI F n then d else c.doc)
def insB (l : List Int) (b n : Int) : List Int := if b = -1 then l ++ [n] else l.take (findN l b) ++ n :: l.drop (findN l b)
def mvIn (F : List Core) (n p : Nat) (b : Int) : List Core := edF F (fun j c => if j = n then (p : Int) else c.parent) (fun j c => if j = p then insB c.kids b n else c.kids) (fun _ c => c.doc)
abbrev note (k : Int) : NoteD := ⟨k, 0, 0, 0, ⟨#[]⟩, false, false, ⟨#[]⟩, ⟨#[]⟩⟩
def noteAt (x : NoteD) (z : Int) : NoteD := ⟨x.kind, z, x.src, x.dst, x.name, x.had, x.has, x.old, x.new⟩
def tellN (F : List Core) (n : Nat) (x : NoteD) : List NoteD := ((allI F n).filter (fun z => kindK F z == 1)).map (noteAt x)
def connF (F : List Core) (n : Nat) : Bool := kindK F (topF F n) == 0
abbrev St := List Core × List NoteD
def outS (S : St) (n : Nat) : St := if parentK S.1 n = -1 then S else (mvOut S.1 n, if connF S.1 n then S.2 ++ tellN S.1 n (note 2) else S.2)
def docK (F : List Core) (n : Int) : Int := match getC F n with | some x => x.doc | none => 0
def overS (S : St) (n : Nat) (d : Int) : St := let T := outS S n; if docK T.1 n = d then T else (mvDoc T.1 n d, T.2 ++ tellN T.1 n ⟨3, 0, docK T.1 n, d, ⟨#[]⟩, false, false, ⟨#[]⟩, ⟨#[]⟩⟩)
def inS (p : Nat) (b : Int) (S : St) (q : Nat) : St := let T := overS S q (docK S.1 p); let G := mvIn T.1 q p b; (G, if connF G q then T.2 ++ tellN G q (note 1) else T.2)
def putS (S : St) (n p : Nat) (b : Int) : St :=
  let l := (partsZ S.1 n).map Int.toNat
  let T := if kindK S.1 n = 3 then l.foldl outS S else S
  l.foldl (inS p b) T
section
variable {m : Int} {F G : List Core}
theorem right_len400 (h : rightF m F = true) : F.length ≤ 400 := by
  obtain ⟨⟨_, h2, h3, _⟩, _⟩ := (rightF_iff m F).1 h
  omega
theorem right_kids (h : rightF m F = true) {i : Nat} {x : Core} (hx : F[i]? = some x) : x.kids.length ≤ 400 := by
  have T := tree_of_right h
  have e : kidsF F i = x.kids.map Int.toNat := by unfold kidsF; rw [hx]
  have h1 := nodup_lt F.length (kidsF F i) (T.nodup i) (fun k hk => T.kid_lt i k hk)
  rw [e, List.length_map] at h1
  exact Nat.le_trans h1 (right_len400 h)
theorem small_edit {M M' : List NodeD} {P : Nat → Core → Int} {K : Nat → Core → List Int} {D : Nat → Core → Int} (hs : smallF M) (he : Edit (coreL M) (coreL M') P K D) (hr : rightF m (coreL M') = true) : smallF M' := by
  refine ⟨?_, fun x hx => ?_⟩
  · have := he.len
    rw [coreL_len, coreL_len] at this
    rw [this]
    exact hs.1
  · obtain ⟨i, hi⟩ := List.getElem?_of_mem hx
    have hc := coreL_get hi
    obtain ⟨c, h1, h2⟩ := he.back hc
    obtain ⟨y, hy, rfl⟩ : ∃ y ∈ M, y.core = c := by
      have := List.mem_of_getElem? h1
      unfold coreL at this
      obtain ⟨y, h3, h4⟩ := List.mem_map.1 this
      exact ⟨y, h3, h4⟩
    have h5 := hs.2 y hy
    refine ⟨Nat.le_trans (right_kids hr hc) (by decide), ?_, ?_⟩
    · rw [h2]; exact h5.2.1
    · rw [h2]; exact h5.2.2
theorem docK_at {n : Nat} {x : Core} (hx : F[n]? = some x) : docK F (n : Int) = x.doc := by unfold docK; rw [getC_nat, hx]
theorem mvOut_out (h : rightF m F = true) {n : Nat} {x : Core} (hx : F[n]? = some x) (hp : x.parent ≠ -1) : ∃ p : Nat, x.parent = p ∧ p < F.length ∧ Out m F (mvOut F n) n p x := by
  obtain ⟨p, h1, h2, _⟩ := right_par h hx hp
  refine ⟨p, h1, h2, h, hx, h1, (edF_edit F _ _ _).cong (fun j c hc => ⟨rfl, ?_, rfl⟩)⟩
  rw [parentK_at hx, h1]
  by_cases e : j = p
  · rw [if_pos e, if_pos (by omega)]
  · rw [if_neg e, if_neg (by omega)]
theorem mem_all (h : rightF m F = true) {n j : Nat} (hn : n < F.length) (hj : j < F.length) : (j : Int) ∈ allI F n ↔ holdsT (parS F) n j := by
  rw [mem_allI, Int.toNat_natCast]
  exact (treeS h).mem_ord _ _ hn (by omega) j hj
theorem doc_up (h : rightF m F = true) {j q : Nat} (hj : j < F.length) (hq : parS F j = some q) : docK F j = docK F q := by
  have hc : F[j]? = some F[j] := List.getElem?_eq_getElem hj
  have N := right_node h hc
  obtain ⟨hn, hql⟩ := parS_next h hj hq
  have hcq : F[q]? = some F[q] := List.getElem?_eq_getElem hql
  rw [docK_at hc, docK_at hcq]
  rw [nextUp_at hc] at hn
  by_cases hp : F[j].parent = -1
  · have hn : F[j].host = (q : Int) := by
      have : (if F[j].parent = -1 then F[j].host else F[j].parent) = (q : Int) := hn
      rwa [if_pos hp] at this
    have hk : F[j].kind = 4 := by
      by_cases e : F[j].kind = 4
      · exact e
      · have := N.free e
        omega
    obtain ⟨d, h1, _, _, h4⟩ := N.host hk
    rw [hn, getC_nat, hcq] at h1
    rw [Option.some.inj h1]
    exact h4.symm
  · have hn : F[j].parent = (q : Int) := by
      have : (if F[j].parent = -1 then F[j].host else F[j].parent) = (q : Int) := hn
      rwa [if_neg hp] at this
    rcases N.par with e | ⟨_, d, h1, _, h3⟩
    · exact absurd e hp
    · rw [hn, getC_nat, hcq] at h1
      obtain rfl := Option.some.inj h1
      obtain ⟨c, h4, _, _, h6⟩ := (right_node h hcq).kids _ h3
      rw [getC_nat, hc] at h4
      rw [Option.some.inj h4]
      exact h6
theorem doc_over (h : rightF m F = true) {a : Nat} : ∀ (k b : Nat), b < F.length → upN (parS F) k b = some a → docK F b = docK F a
  | 0, b, _, hu => by rw [Option.some.inj hu]
  | k + 1, b, hb, hu => by
    unfold upN at hu
    cases hq : parS F b with
    | none => rw [hq] at hu; cases hu
    | some q =>
      rw [hq] at hu
      rw [doc_up h hb hq]
      exact doc_over h k q (parS_next h hb hq).2 hu
theorem doc_all (h : rightF m F = true) {n j : Nat} (hn : n < F.length) (hj : (j : Int) ∈ allI F n) (hjl : j < F.length) : docK F j = docK F n := by
  obtain ⟨k, hk⟩ := (mem_all h hn hjl).1 hj
  exact doc_over h k j hjl hk
structure Taken (m : Int) (F G : List Core) (n : Nat) (d : Int) : Prop where
  right : rightF m F = true
  lt : n < F.length
  top : parS F n = none
  kind : kindK F n ≠ 0
  doc : ∃ c, getC F d = some c ∧ c.kind = 0
  ed : Edit F G (fun _ c => c.parent) (fun _ c => c.kids) (fun j c => if (j : Int) ∈ allI F n then d else c.doc)
section
variable {n : Nat} {d : Int}
theorem Taken.up (h : Taken m F G n d) {j q : Nat} (hj : j < F.length) (hq : parS F j = some q) : (j : Int) ∈ allI F n ↔ (q : Int) ∈ allI F n := by
  have hql := (parS_next h.right hj hq).2
  rw [mem_all h.right h.lt hj, mem_all h.right h.lt hql]
  constructor
  · intro hh
    rcases holds_up hh with e | ⟨s, e1, e2⟩
    · rw [← e, h.top] at hq
      cases hq
    · rw [hq] at e1
      rw [Option.some.inj e1]
      exact e2
  · exact fun hh => holds_trans hh (holds_par hq)
theorem Taken.node (h : Taken m F G n d) {j : Nat} {y : Core} (hy : G[j]? = some y) : NodeP G j y := by
  obtain ⟨c, hc, rfl⟩ := h.ed.back hy
  have hjl := (List.getElem?_eq_some_iff.1 hc).1
  have N := right_node h.right hc
  refine ⟨N.kind, ?_, fun e => ?_, ?_, N.once, fun k hk => ?_, N.leaf, fun e => ?_, fun e => ?_, N.free, ?_, N.text⟩
  · show ∃ d', getC G (if (j : Int) ∈ allI F n then d else c.doc) = some d' ∧ d'.kind = 0
    split
    · obtain ⟨d', h1, h2⟩ := h.doc
      exact ⟨_, h.ed.getC h1, h2⟩
    · obtain ⟨d', h1, h2⟩ := N.doc
      exact ⟨_, h.ed.getC h1, h2⟩
  · show (if (j : Int) ∈ allI F n then d else c.doc) = (j : Int)
    have e : c.kind = 0 := e
    have hnm : ¬ (j : Int) ∈ allI F n := fun hm => by
      rcases holds_up ((mem_all h.right h.lt hjl).1 hm) with e1 | ⟨s, e1, _⟩
      · exact h.kind (by rw [e1, kindK_at hc]; exact e)
      · have hn := (parS_next h.right hjl e1).1
        rw [nextUp_at hc] at hn
        have hn2 : (if c.parent = -1 then c.host else c.parent) = (s : Int) := hn
        have hpar : c.parent = -1 := by
          rcases N.par with h3 | ⟨h3, _⟩
          · exact h3
          · omega
        rw [if_pos hpar, N.free (by omega)] at hn2
        omega
    rw [if_neg hnm]
    exact N.own e
  · rcases N.par with h1 | ⟨h1, q, h2, h3, h4⟩
    · exact .inl h1
    · exact .inr ⟨h1, _, h.ed.getC h2, h3, h4⟩
  · obtain ⟨c', h1, h2, h3, h4⟩ := N.kids k hk
    obtain ⟨g0, g1, g2⟩ := getC_some h1
    have hkn : ((k.toNat : Nat) : Int) = k := by omega
    refine ⟨_, h.ed.getC h1, h2, h3, ?_⟩
    show (if ((k.toNat : Nat) : Int) ∈ allI F n then d else c'.doc) = if (j : Int) ∈ allI F n then d else c.doc
    have hu := h.up g1 (parS_parent g2 h3)
    by_cases e : (j : Int) ∈ allI F n
    · rw [if_pos e, if_pos (hu.2 e)]
    · rw [if_neg e, if_neg (fun e2 => e (hu.1 e2)), h4]
  · obtain ⟨h1, h2⟩ := N.root e
    exact ⟨h1, fun k hk => by rw [h.ed.kindK]; exact h2 k hk⟩
  · obtain ⟨d', h1, h2, h3, h4⟩ := N.host e
    obtain ⟨g0, g1, g2⟩ := getC_some h1
    refine ⟨_, h.ed.getC h1, h2, h3, ?_⟩
    show (if ((c.host.toNat : Nat) : Int) ∈ allI F n then d else d'.doc) = if (j : Int) ∈ allI F n then d else c.doc
    have e4 : c.kind = 4 := e
    have hpar : c.parent = -1 := by
      rcases N.par with h5 | ⟨h5, _⟩
      · exact h5
      · omega
    have hu := h.up hjl (parS_host hc hpar (show c.host = ((c.host.toNat : Nat) : Int) by omega))
    by_cases e : (j : Int) ∈ allI F n
    · rw [if_pos e, if_pos (hu.1 e)]
    · rw [if_neg e, if_neg (fun e2 => e (hu.2 e2)), h4]
  · rcases N.under with h1 | ⟨h1, u, h2, h3, h4⟩
    · exact .inl h1
    · exact .inr ⟨h1, _, h.ed.getC h2, h3, h4⟩
theorem Taken.next (h : Taken m F G n d) (j : Nat) : nextUp G (j : Int) = nextUp F j := by
  by_cases hj : j < F.length
  · have hc : F[j]? = some F[j] := List.getElem?_eq_getElem hj
    rw [h.ed.next hc, nextUp_at hc]
    rfl
  · unfold nextUp
    rw [getC_nat, getC_nat, List.getElem?_eq_none (by rw [h.ed.len]; omega), List.getElem?_eq_none (by omega)]
theorem Taken.rightG (h : Taken m F G n d) : rightF m G = true := by
  obtain ⟨⟨h1, h2, h3, h4⟩, _, _⟩ := (rightF_iff m F).1 h.right
  refine right_of h1 h2 (by rw [h.ed.len]; exact h3) (h.ed.head h4) (fun i y hy => h.node hy) (rankF F) (fun i hi => ?_)
  rw [h.ed.len] at hi ⊢
  rw [h.next]
  exact rank_next h.right hi
end
end
end Go.Proofs.YtnjoimedilonnaaGreatDoor
