/- Texts joined in build order: MoveMath MoveMath2 MoveParts ReadMath ForestOpen. -/
import Derived.Test.YtkfmengdffpcnaaGreatDoorA15
import Derived.Test.YtkfmengdffpcnaaGreatDoorA18
import Derived.Test.YtkfmengdffpcnaaGreatDoorA21
import Derived.Test.YtkfmengdffpcnaaGreatDoorA14
import Derived.Test.YtkfmengdffpcnaaGreatDoorA17
import Derived.Test.YtkfmengdffpcnaaGreatDoorA12
import Derived.Lib.IndexAny
import Derived.Lib.Strings
import Derived.Test.YtkfmengdffpcnaaGreatDoorA01
import Derived.Test.YtkfmengdffpcnaaGreatDoorA08
import Derived.OpenShut
namespace Go.Proofs.YtkfmengdffpcnaaGreatDoor
open Go.RowKit
def edF (F : List Core) (P : Nat → Core → Int) (K : Nat → Core → List Int) (D : Nat → Core → Int) : List Core := F.mapIdx fun j c => edC c (P j c) (K j c) (D j c)
theorem edF_edit (F : List Core) (P : Nat → Core → Int) (K : Nat → Core → List Int) (D : Nat → Core → Int) : Edit F (edF F P K D) P K D :=
  ⟨by unfold edF; simp, fun j c hc => by unfold edF; rw [List.getElem?_mapIdx, hc]; rfl⟩
section
variable {F G : List Core} {P P' : Nat → Core → Int} {K K' : Nat → Core → List Int} {D D' : Nat → Core → Int}
theorem Edit.eq (h : Edit F G P K D) : G = edF F P K D := by
  apply List.ext_getElem?
  intro i
  by_cases hi : i < F.length
  · have hc : F[i]? = some F[i] := List.getElem?_eq_getElem hi
    rw [h.at_ i _ hc, (edF_edit F P K D).at_ i _ hc]
  · rw [List.getElem?_eq_none (by rw [h.len]; omega), List.getElem?_eq_none (by rw [(edF_edit F P K D).len]; omega)]
theorem Edit.cong (h : Edit F G P K D) (hh : ∀ (j : Nat) c, F[j]? = some c → P j c = P' j c ∧ K j c = K' j c ∧ D j c = D' j c) : Edit F G P' K' D' :=
  ⟨h.len, fun j c hc => by obtain ⟨e1, e2, e3⟩ := hh j c hc; rw [h.at_ j c hc, e1, e2, e3]⟩
end
def mvOut (F : List Core) (n : Nat) : List Core := edF F (fun j c => if j = n then -1 else c.parent) (fun j c => if (j : Int) = parentK F n then c.kids.filter (fun z => z != (n : Int)) else c.kids) (fun _ c => c.doc)
def mvDoc (F : List Core) (n : Nat) (d : Int) : List Core := edF F (fun _ c => c.parent) (fun _ c => c.kids) (fun j c => if (j : Int) ∈ allI F n then d else c.doc)
def insB (l : List Int) (b n : Int) : List Int := if b = -1 then l ++ [n] else l.take (findN l b) ++ n :: l.drop (findN l b)
def mvIn (F : List Core) (n p : Nat) (b : Int) : List Core := edF F (fun j c => if j = n then (p : Int) else c.parent) (fun j c => if j = p then insB c.kids b n else c.kids) (fun _ c => c.doc)
abbrev note (k : Int) : NoteD := ⟨k, 0, 0, 0, ⟨#[]⟩, false, false, ⟨#[]⟩, ⟨#[]⟩⟩
def noteAt (x : NoteD) (z : Int) : NoteD := ⟨x.kind, z, x.src, x.dst, x.name, x.had, x.has, x.old, x.new⟩
def tellN (F : List Core) (n : Nat) (x : NoteD) : List NoteD := ((allI F n).filter (fun z => kindK F z == 1)).map (noteAt x)
def connF (F : List Core) (n : Nat) : Bool := kindK F (topF F n) == 0
abbrev St := List Core × List NoteD
def outS (S : St) (n : Nat) : St := if parentK S.1 n = -1 then S else (mvOut S.1 n, if connF S.1 n then S.2 ++ tellN S.1 n (note 2) else S.2)
def docK (F : List Core) (n : Int) : Int := match getC F n with | some x => x.doc | none => 0
def overS (S : St) (n : Nat) (d : Int) : St := let T := outS S n; if docK T.1 n = d then T else (mvDoc T.1 n d, T.2 ++ tellN T.1 n ⟨3, 0, docK T.1 n, d, ⟨#[]⟩, false, false, ⟨#[]⟩, ⟨#[]⟩⟩)
def inS (p : Nat) (b : Int) (S : St) (q : Nat) : St := let T := overS S q (docK S.1 p); let G := mvIn T.1 q p b; (G, if connF G q then T.2 ++ tellN G q (note 1) else T.2)
def putS (S : St) (n p : Nat) (b : Int) : St :=
  let l := (partsZ S.1 n).map Int.toNat
  let T := if kindK S.1 n = 3 then l.foldl outS S else S
  l.foldl (inS p b) T
section
variable {m : Int} {F G : List Core}
theorem right_len400 (h : rightF m F = true) : F.length ≤ 400 := by
  obtain ⟨⟨_, h2, h3, _⟩, _⟩ := (rightF_iff m F).1 h
  omega
theorem right_kids (h : rightF m F = true) {i : Nat} {x : Core} (hx : F[i]? = some x) : x.kids.length ≤ 400 := by
  have T := tree_of_right h
  have e : kidsF F i = x.kids.map Int.toNat := by unfold kidsF; rw [hx]
  have h1 := nodup_lt F.length (kidsF F i) (T.nodup i) (fun k hk => T.kid_lt i k hk)
  rw [e, List.length_map] at h1
  exact Nat.le_trans h1 (right_len400 h)
theorem small_edit {M M' : List NodeD} {P : Nat → Core → Int} {K : Nat → Core → List Int} {D : Nat → Core → Int} (hs : smallF M) (he : Edit (coreL M) (coreL M') P K D) (hr : rightF m (coreL M') = true) : smallF M' := by
  refine ⟨?_, fun x hx => ?_⟩
  · have := he.len
    rw [coreL_len, coreL_len] at this
    rw [this]
    exact hs.1
  · obtain ⟨i, hi⟩ := List.getElem?_of_mem hx
    have hc := coreL_get hi
    obtain ⟨c, h1, h2⟩ := he.back hc
    obtain ⟨y, hy, rfl⟩ : ∃ y ∈ M, y.core = c := by
      have := List.mem_of_getElem? h1
      unfold coreL at this
      obtain ⟨y, h3, h4⟩ := List.mem_map.1 this
      exact ⟨y, h3, h4⟩
    have h5 := hs.2 y hy
    refine ⟨Nat.le_trans (right_kids hr hc) (by decide), ?_, ?_⟩
    · rw [h2]; exact h5.2.1
    · rw [h2]; exact h5.2.2
theorem docK_at {n : Nat} {x : Core} (hx : F[n]? = some x) : docK F (n : Int) = x.doc := by unfold docK; rw [getC_nat, hx]
theorem mvOut_out (h : rightF m F = true) {n : Nat} {x : Core} (hx : F[n]? = some x) (hp : x.parent ≠ -1) : ∃ p : Nat, x.parent = p ∧ p < F.length ∧ Out m F (mvOut F n) n p x := by
  obtain ⟨p, h1, h2, _⟩ := right_par h hx hp
  refine ⟨p, h1, h2, h, hx, h1, (edF_edit F _ _ _).cong (fun j c hc => ⟨rfl, ?_, rfl⟩)⟩
  rw [parentK_at hx, h1]
  by_cases e : j = p
  · rw [if_pos e, if_pos (by omega)]
  · rw [if_neg e, if_neg (by omega)]
theorem mem_all (h : rightF m F = true) {n j : Nat} (hn : n < F.length) (hj : j < F.length) : (j : Int) ∈ allI F n ↔ holdsT (parS F) n j := by
  rw [mem_allI, Int.toNat_natCast]
  exact (treeS h).mem_ord _ _ hn (by omega) j hj
theorem doc_up (h : rightF m F = true) {j q : Nat} (hj : j < F.length) (hq : parS F j = some q) : docK F j = docK F q := by
  have hc : F[j]? = some F[j] := List.getElem?_eq_getElem hj
  have N := right_node h hc
  obtain ⟨hn, hql⟩ := parS_next h hj hq
  have hcq : F[q]? = some F[q] := List.getElem?_eq_getElem hql
  rw [docK_at hc, docK_at hcq]
  rw [nextUp_at hc] at hn
  by_cases hp : F[j].parent = -1
  · have hn : F[j].host = (q : Int) := by
      have : (if F[j].parent = -1 then F[j].host else F[j].parent) = (q : Int) := hn
      rwa [if_pos hp] at this
    have hk : F[j].kind = 4 := by
      by_cases e : F[j].kind = 4
      · exact e
      · have := N.free e
        omega
    obtain ⟨d, h1, _, _, h4⟩ := N.host hk
    rw [hn, getC_nat, hcq] at h1
    rw [Option.some.inj h1]
    exact h4.symm
  · have hn : F[j].parent = (q : Int) := by
      have : (if F[j].parent = -1 then F[j].host else F[j].parent) = (q : Int) := hn
      rwa [if_neg hp] at this
    rcases N.par with e | ⟨_, d, h1, _, h3⟩
    · exact absurd e hp
    · rw [hn, getC_nat, hcq] at h1
      obtain rfl := Option.some.inj h1
      obtain ⟨c, h4, _, _, h6⟩ := (right_node h hcq).kids _ h3
      rw [getC_nat, hc] at h4
      rw [Option.some.inj h4]
      exact h6
theorem doc_over (h : rightF m F = true) {a : Nat} : ∀ (k b : Nat), b < F.length → upN (parS F) k b = some a → docK F b = docK F a
  | 0, b, _, hu => by rw [Option.some.inj hu]
  | k + 1, b, hb, hu => by
    unfold upN at hu
    cases hq : parS F b with
    | none => rw [hq] at hu; cases hu
    | some q =>
      rw [hq] at hu
      rw [doc_up h hb hq]
      exact doc_over h k q (parS_next h hb hq).2 hu
theorem doc_all (h : rightF m F = true) {n j : Nat} (hn : n < F.length) (hj : (j : Int) ∈ allI F n) (hjl : j < F.length) : docK F j = docK F n := by
  obtain ⟨k, hk⟩ := (mem_all h hn hjl).1 hj
  exact doc_over h k j hjl hk
structure Taken (m : Int) (F G : List Core) (n : Nat) (d : Int) : Prop where
  right : rightF m F = true
  lt : n < F.length
  top : parS F n = none
  kind : kindK F n ≠ 0
  doc : ∃ c, getC F d = some c ∧ c.kind = 0
  ed : Edit F G (fun _ c => c.parent) (fun _ c => c.kids) (fun j c => if (j : Int) ∈ allI F n then d else c.doc)
section
variable {n : Nat} {d : Int}
theorem Taken.up (h : Taken m F G n d) {j q : Nat} (hj : j < F.length) (hq : parS F j = some q) : (j : Int) ∈ allI F n ↔ (q : Int) ∈ allI F n := by
  have hql := (parS_next h.right hj hq).2
  rw [mem_all h.right h.lt hj, mem_all h.right h.lt hql]
  constructor
  · intro hh
    rcases holds_up hh with e | ⟨s, e1, e2⟩
    · rw [← e, h.top] at hq
      cases hq
    · rw [hq] at e1
      rw [Option.some.inj e1]
      exact e2
  · exact fun hh => holds_trans hh (holds_par hq)
theorem Taken.node (h : Taken m F G n d) {j : Nat} {y : Core} (hy : G[j]? = some y) : NodeP G j y := by
  obtain ⟨c, hc, rfl⟩ := h.ed.back hy
  have hjl := (List.getElem?_eq_some_iff.1 hc).1
  have N := right_node h.right hc
  refine ⟨N.kind, ?_, fun e => ?_, ?_, N.once, fun k hk => ?_, N.leaf, fun e => ?_, fun e => ?_, N.free, ?_, N.text⟩
  · show ∃ d', getC G (if (j : Int) ∈ allI F n then d else c.doc) = some d' ∧ d'.kind = 0
    split
    · obtain ⟨d', h1, h2⟩ := h.doc
      exact ⟨_, h.ed.getC h1, h2⟩
    · obtain ⟨d', h1, h2⟩ := N.doc
      exact ⟨_, h.ed.getC h1, h2⟩
  · show (if (j : Int) ∈ allI F n then d else c.doc) = (j : Int)
    have e : c.kind = 0 := e
    have hnm : ¬ (j : Int) ∈ allI F n := fun hm => by
      rcases holds_up ((mem_all h.right h.lt hjl).1 hm) with e1 | ⟨s, e1, _⟩
      · exact h.kind (by rw [e1, kindK_at hc]; exact e)
      · have hn := (parS_next h.right hjl e1).1
        rw [nextUp_at hc] at hn
        have hn2 : (if c.parent = -1 then c.host else c.parent) = (s : Int) := hn
        have hpar : c.parent = -1 := by
          rcases N.par with h3 | ⟨h3, _⟩
          · exact h3
          · omega
        rw [if_pos hpar, N.free (by omega)] at hn2
        omega
    rw [if_neg hnm]
    exact N.own e
  · rcases N.par with h1 | ⟨h1, q, h2, h3, h4⟩
    · exact .inl h1
    · exact .inr ⟨h1, _, h.ed.getC h2, h3, h4⟩
  · obtain ⟨c', h1, h2, h3, h4⟩ := N.kids k hk
    obtain ⟨g0, g1, g2⟩ := getC_some h1
    have hkn : ((k.toNat : Nat) : Int) = k := by omega
    refine ⟨_, h.ed.getC h1, h2, h3, ?_⟩
    show (if ((k.toNat : Nat) : Int) ∈ allI F n then d else c'.doc) = if (j : Int) ∈ allI F n then d else c.doc
    have hu := h.up g1 (parS_parent g2 h3)
    by_cases e : (j : Int) ∈ allI F n
    · rw [if_pos e, if_pos (hu.2 e)]
    · rw [if_neg e, if_neg (fun e2 => e (hu.1 e2)), h4]
  · obtain ⟨h1, h2⟩ := N.root e
    exact ⟨h1, fun k hk => by rw [h.ed.kindK]; exact h2 k hk⟩
  · obtain ⟨d', h1, h2, h3, h4⟩ := N.host e
    obtain ⟨g0, g1, g2⟩ := getC_some h1
    refine ⟨_, h.ed.getC h1, h2, h3, ?_⟩
    show (if ((c.host.toNat : Nat) : Int) ∈ allI F n then d else d'.doc) = if (j : Int) ∈ allI F n then d else c.doc
    have e4 : c.kind = 4 := e
    have hpar : c.parent = -1 := by
      rcases N.par with h5 | ⟨h5, _⟩
      · exact h5
      · omega
    have hu := h.up hjl (parS_host hc hpar (show c.host = ((c.host.toNat : Nat) : Int) by omega))
    by_cases e : (j : Int) ∈ allI F n
    · rw [if_pos e, if_pos (hu.1 e)]
    · rw [if_neg e, if_neg (fun e2 => e (hu.2 e2)), h4]
  · rcases N.under with h1 | ⟨h1, u, h2, h3, h4⟩
    · exact .inl h1
    · exact .inr ⟨h1, _, h.ed.getC h2, h3, h4⟩
theorem Taken.next (h : Taken m F G n d) (j : Nat) : nextUp G (j : Int) = nextUp F j := by
  by_cases hj : j < F.length
  · have hc : F[j]? = some F[j] := List.getElem?_eq_getElem hj
    rw [h.ed.next hc, nextUp_at hc]
    rfl
  · unfold nextUp
    rw [getC_nat, getC_nat, List.getElem?_eq_none (by rw [h.ed.len]; omega), List.getElem?_eq_none (by omega)]
theorem Taken.rightG (h : Taken m F G n d) : rightF m G = true := by
  obtain ⟨⟨h1, h2, h3, h4⟩, _, _⟩ := (rightF_iff m F).1 h.right
  refine right_of h1 h2 (by rw [h.ed.len]; exact h3) (h.ed.head h4) (fun i y hy => h.node hy) (rankF F) (fun i hi => ?_)
  rw [h.ed.len] at hi ⊢
  rw [h.next]
  exact rank_next h.right hi
end
end
end Go.Proofs.YtkfmengdffpcnaaGreatDoor
namespace Go.Proofs.YtkfmengdffpcnaaGreatDoor
open Go.RowKit
section
variable {m : Int} {F G : List Core} {P : Nat → Core → Int} {K : Nat → Core → List Int} {D : Nat → Core → Int}
theorem ordN_congr (h : rightF m F = true) : ∀ (f i : Nat), i < F.length → (∀ j, j < F.length → holdsT (parS F) i j → kidsS G j = kidsS F j) → ordN (kidsS G) f i = ordN (kidsS F) f i
  | 0, _, _, _ => rfl
  | f + 1, i, hi, hk => by
    have T := treeS h
    show i :: (kidsS G i).flatMap (ordN (kidsS G) f) = i :: (kidsS F i).flatMap (ordN (kidsS F) f)
    rw [hk i hi (holds_refl i)]
    congr 1
    exact flat_congr (fun k hkk => ordN_congr h f k (T.kid_lt i k hkk) (fun j hj hh => hk j hj (holds_trans (holds_par (T.kid_par i k hkk)) hh)))
theorem allI_congr (h : rightF m F = true) (hl : G.length = F.length) {n : Nat} (hn : n < F.length) (hk : ∀ j, j < F.length → holdsT (parS F) n j → kidsS G j = kidsS F j) : allI G n = allI F n := by
  unfold allI allF
  rw [Int.toNat_natCast, hl, ordN_congr h (F.length + 1) n hn hk]
theorem edit_undS (h : Edit F G P K D) (j : Nat) : undS G j = undS F j := by
  unfold undS
  by_cases hj : j < F.length
  · have hc : F[j]? = some F[j] := List.getElem?_eq_getElem hj
    rw [h.at_ j _ hc, hc]
    rfl
  · rw [List.getElem?_eq_none (by rw [h.len]; omega), List.getElem?_eq_none (by omega)]
theorem edit_kidsS (h : Edit F G P K D) {j : Nat} {c : Core} (hc : F[j]? = some c) (hk : K j c = c.kids) : kidsS G j = kidsS F j := by
  unfold kidsS
  rw [edit_undS h j]
  congr 1
  unfold kidsF
  rw [h.at_ j c hc, hc]
  show (K j c).map Int.toNat = c.kids.map Int.toNat
  rw [hk]
theorem tellN_congr (h : Edit F G P K D) {n : Nat} (ha : allI G n = allI F n) (x : NoteD) : tellN G n x = tellN F n x := by
  unfold tellN
  rw [ha]
  congr 1
  exact List.filter_congr (fun z _ => by rw [h.kindK])
theorem allI_out (h : rightF m F = true) {n : Nat} {x : Core} (hx : F[n]? = some x) (hp : x.parent ≠ -1) : allI (mvOut F n) n = allI F n := by
  obtain ⟨p, hpp, hpl, ho⟩ := mvOut_out h hx hp
  have hn := (List.getElem?_eq_some_iff.1 hx).1
  refine allI_congr h ho.ed.len hn (fun j hj hh => ?_)
  have hc : F[j]? = some F[j] := List.getElem?_eq_getElem hj
  refine edit_kidsS ho.ed hc ?_
  by_cases e : j = p
  · subst e
    have hpar : parS F n = some j := parS_parent hx hpp
    have e2 := (treeS h).holds_anti hn hj hh (holds_par hpar)
    have := (treeS h).rank_up j n hn hpar
    rw [e2] at this
    omega
  · exact if_neg e
theorem tellN_out (h : rightF m F = true) {n : Nat} {x : Core} (hx : F[n]? = some x) (hp : x.parent ≠ -1) (y : NoteD) : tellN (mvOut F n) n y = tellN F n y := tellN_congr (edF_edit F _ _ _) (allI_out h hx hp) y
theorem allI_doc (h : rightF m F = true) {n : Nat} (hn : n < F.length) (d : Int) : allI (mvDoc F n d) n = allI F n :=
  allI_congr h (edF_edit F _ _ _).len hn (fun _ hj _ => edit_kidsS (edF_edit F _ _ _) (List.getElem?_eq_getElem hj) rfl)
theorem tellN_doc (h : rightF m F = true) {n : Nat} (hn : n < F.length) (d : Int) (y : NoteD) : tellN (mvDoc F n d) n y = tellN F n y := tellN_congr (edF_edit F _ _ _) (allI_doc h hn d) y
theorem tellN_len (h : rightF m F = true) {n : Nat} (hn : n < F.length) (y : NoteD) : (tellN F n y).length ≤ 400 := by
  unfold tellN
  rw [List.length_map]
  exact Nat.le_trans (List.length_filter_le _ _) (Nat.le_trans (allI_len h hn) (right_len400 h))
end
end Go.Proofs.YtkfmengdffpcnaaGreatDoor
namespace Go.Proofs.YtkfmengdffpcnaaGreatDoor
open Go.RowKit
set_option maxHeartbeats 4000000 in
set_option maxRecDepth 100000 in
theorem vpartsNew_any (a : Option Addr) (len cap : Nat) (m : Int) (L : List NodeD) (n : Int) (w : World) (h : NodeRow w a len cap L) (hn : In64 n) (hs : smallF L) :
    Calls Tryz.prog 54 #[forV a len cap m, .int .i64 n] w (OrdNew w (partsZ (coreL L) n)) := by
  have HCL : Hid ((coreL L).length = len) := Lib.hid (by rw [coreL_len, h.hlen])
  have hlen := h.len64
  have BX := Lib.hid (Box.start (m := m) h)
  have HF : Hid (∀ W b, NodeRow W a len cap L → inF (coreL L) n = b → Calls Tryz.prog 78 #[forV a len cap m, .int .i64 n] W fun e w' => e = .returned (.bool b) ∧ Below W.heap.size W w') := Lib.hid (fun W b h1 h3 => by
    rw [← h3]
    exact vhas_any a len cap m L n W h1 hn)
  have HS := Lib.hid hs
  have HN := Lib.hid hn
  have HH := Lib.hid h
  clear h hs hn
  cases q : inF (coreL L) n with
  | false =>
    have HQ := Lib.hid q
    have HP : Hid (partsZ (coreL L) n = []) := Lib.hid (by
      unfold partsZ getC
      unfold inF at q
      by_cases h0 : 0 ≤ n
      · rw [decide_eq_true h0, Bool.true_and, decide_eq_false_iff_not] at q
        rw [if_pos h0, List.getElem?_eq_none (by omega)]
      · rw [if_neg h0])
    clear q
    have z0 := BX.out.c0
    have z1 := BX.out.c1
    go_enter Tryz.func54, Tryz.ntmps54
    go_wp2_with (go_at_call 78; (refine (HF.out _ _ BX.out.row HQ.out).mono ?_); rintro e w1 ⟨rfl, hb⟩; have BX := Lib.hid (BX.out.keep hb); have z0 := BX.out.c0; have z1 := BX.out.c1; clear hb)
    go_ret
    exact ⟨none, 0, 0, rfl, by rw [HP.out]; exact ⟨SRow.nil, by simp, fun _ => rfl⟩, BX.out.below, fun b off h => by cases h⟩
  | true =>
    have HQ := Lib.hid q
    obtain ⟨k, rfl, hk⟩ := inF_nat q
    rw [HCL.out] at hk
    clear q
    obtain ⟨b, off, x, rfl, hb, hx, hat, hok⟩ := HH.out.get hk
    have hxc := coreL_get hx
    have C0 := Lib.hid (stays hat.c0 hb)
    have C6 := Lib.hid (stays hat.c6 hb)
    have NK := Lib.hid hok
    by_cases h3 : x.core.kind = 3
    · have HP : Hid (partsZ (coreL L) k = x.core.kids) := Lib.hid (by unfold partsZ; rw [getC_nat, hxc]; dsimp only; rw [if_pos h3])
      have hk3 : (x.core.kind == 3) = true := beq_iff_eq.2 h3
      have HKL : Hid (x.core.kids.length ≤ 1000) := Lib.hid (HS.out.2 x (List.mem_of_getElem? hx)).1
      have IN : Hid (∀ z ∈ x.core.kids, In64 z) := Lib.hid NK.out.kids.inb
      have CC : Hid (∀ W, Below w.heap.size w W → Calls Tryz.prog 83 #[.slice x.kA x.kN x.kC] W (OwnPostI W x.core.kids)) := Lib.hid (fun W hb => cloneI_any x.kA x.kN x.kC x.core.kids W (NK.out.kids.below hb) (by have h1 := HKL.out; have h2 := NK.out.kids.hlen; omega))
      clear hat hok hx hxc hb h3
      have z0 := BX.out.c0
      have z1 := BX.out.c1
      go_enter Tryz.func54, Tryz.ntmps54
      go_wp2_with (first
        | (go_at_call 78; ((with_reducible refine (HF.out _ _ BX.out.row HQ.out).mono ?_); rintro e w1 ⟨rfl, hb⟩; have BX := Lib.hid (BX.out.keep hb); have z0 := BX.out.c0; have z1 := BX.out.c1; clear hb; have c0 := C0.out _ BX.out.below; have c6 := C6.out _ BX.out.below))
        | (go_at_call 83; ((with_reducible refine (CC.out _ BX.out.below).mono ?_)); intro e w2 hp; obtain ⟨a2, cap2, rfl, hr2, hlo2, hb2⟩ := OwnPostI.row hp IN.out; have HSZ := Lib.hid BX.out.below.size; have HLO := Lib.hid hlo2; clear hlo2; have BX := Lib.hid (BX.out.keep hb2); have HR2 := Lib.hid hr2; clear hp hr2 hb2))
      go_ret
      exact ⟨a2, _, cap2, rfl, by rw [HP.out]; exact HR2.out, BX.out.below, fun b off h => Nat.le_trans HSZ.out (HLO.out b off h)⟩
    · have HP : Hid (partsZ (coreL L) k = [(k : Int)]) := Lib.hid (by unfold partsZ; rw [getC_nat, hxc]; dsimp only; rw [if_neg h3])
      have hk3 : (x.core.kind == 3) = false := beq_eq_false_iff_ne.2 h3
      clear hat hok hx hxc hb h3
      have z0 := BX.out.c0
      have z1 := BX.out.c1
      go_enter Tryz.func54, Tryz.ntmps54
      go_wp2_with (go_at_call 78; ((with_reducible refine (HF.out _ _ BX.out.row HQ.out).mono ?_); rintro e w1 ⟨rfl, hb⟩; have BX := Lib.hid (BX.out.keep hb); have z0 := BX.out.c0; have z1 := BX.out.c1; clear hb; have c0 := C0.out _ BX.out.below; have c6 := C6.out _ BX.out.below))
      go_ret
      exact ⟨_, 1, 1, rfl, by rw [HP.out]; exact lit_one _ _ _ HN.out, BX.out.below.trans ((below_box _ _).mono BX.out.below.size), fun b off h => by injection h with h; injection h with h1; have := BX.out.below.size; omega⟩
end Go.Proofs.YtkfmengdffpcnaaGreatDoor
namespace Go.Proofs.YtkfmengdffpcnaaGreatDoor
open Go.RowKit
abbrev BL := List UInt8
def strB (l : BL) : ByteArray := ⟨l.toArray⟩
theorem strB_data (l : BL) : (strB l).data.toList = l := rfl
theorem strB_size (l : BL) : (strB l).size = l.length := Lib.size_eq _
def skipM (l p : BL) : Option BL := if p.isPrefixOf l then some (l.drop p.length) else none
def okM (l : BL) : Bool := decide (l.length ≤ 100000) && l.all (fun b => decide (b.toNat < 128))
def endM (l : BL) : Nat := (Lib.indexAny l [33, 32, 61, 62]).toNat
def qM : BL → BL → Option (BL × BL)
  | _, [] => none
  | acc, b :: r => if b = 34 then some (acc, r) else if b = 92 then (match r with | [] => none | c :: r2 => if c = 34 ∨ c = 92 then qM (acc ++ [c]) r2 else none) else qM (acc ++ [b]) r
def quoM (l : BL) : Option (BL × BL) := if l.length ≤ 100000 then (match skipM l [34] with | some r => qM [] r | none => none) else none
def wordM (l : BL) : Option (BL × BL) := if okM l then some (l.take (endM l), l.drop (endM l)) else none
def attrM (l : BL) : Option ((ByteArray × ByteArray) × BL) :=
  match wordM l with
  | none => none
  | some (n, l1) => match skipM l1 [61] with
    | none => none
    | some l2 => match quoM l2 with
      | none => none
      | some (v, l3) => some ((strB n, strB v), l3)
def attrsM : Nat → BL → AL → Option (AL × BL)
  | 0, _, _ => none
  | k + 1, l, acc => match skipM l [32] with
    | none => some (acc, l)
    | some l1 => match attrM l1 with
      | none => none
      | some (a, l2) => if acc.length < 1000 then attrsM k l2 (acc ++ [a]) else none
def isM (l : BL) : Option (BL × BL) :=
  match skipM l [33] with
  | none => some ([], l)
  | some l1 => match wordM l1 with
    | none => none
    | some (s, l2) => if s = [] then none else some (s, l2)
abbrev nodeC (kind : Int) (name is data : BL) (attrs : AL) (doc : Int) : Core := ⟨kind, strB name, strB is, strB data, attrs, 0, [], 0, 0, doc⟩
def headM (doc : Int) (l : BL) : Option (BL × Core × BL) :=
  match wordM l with
  | none => none
  | some (n, l1) => match isM l1 with
    | none => none
    | some (s, l2) => match attrsM (l2.length + 1) l2 [] with
      | none => none
      | some (a, l3) => match skipM l3 [62] with
        | none => none
        | some l4 => if n.length ≤ 1000 then some (n, nodeC 1 n s [] a doc, l4) else none
def addM (F : List Core) (c : Core) : Option (List Core) := if F.length < 1000 then some (F ++ [aloneC c F.length]) else none
def hangM (F : List Core) (host sh : Nat) : List Core := (F.modify host (fun c => ⟨c.kind, c.name, c.is, c.data, c.attrs, c.parent, c.kids, c.host, sh, c.doc⟩)).modify sh (fun c => ⟨c.kind, c.name, c.is, c.data, c.attrs, c.parent, c.kids, host, c.under, c.doc⟩)
inductive Job where
  | node
  | kids (p : Nat) (stop : BL)
def readM (doc : Int) : Nat → Job → BL → List Core → Option (BL × List Core)
  | 0, _, _, _ => none
  | k + 1, .node, l, F =>
    match skipM l [60] with
    | some l1 => (match headM doc l1 with
      | none => none
      | some (n, c, l2) => match addM F c with
        | none => none
        | some F1 => match skipM l2 [123] with
          | none => readM doc k (.kids F.length ([60, 47] ++ n ++ [62])) l2 F1
          | some l3 => match addM F1 (nodeC 4 [] [] [] [] doc) with
            | none => none
            | some F2 => match readM doc k (.kids (F.length + 1) [125]) l3 (hangM F2 F.length (F.length + 1)) with
              | none => none
              | some (l4, F3) => readM doc k (.kids F.length ([60, 47] ++ n ++ [62])) l4 F3)
    | none => match skipM l [91] with
      | some l1 => (match addM F (nodeC 3 [] [] [] [] doc) with
        | none => none
        | some F1 => readM doc k (.kids F.length [93]) l1 F1)
      | none => match quoM l with
        | none => none
        | some (d, l1) => match addM F (nodeC 2 [] [] d [] doc) with
          | none => none
          | some F1 => some (l1, F1)
  | k + 1, .kids p stop, l, F =>
    match skipM l stop with
    | some l1 => some (l1, F)
    | none => match readM doc k .node l F with
      | none => none
      | some (l1, F1) => if (kidsK F1 p).length < 1000 ∧ p < F.length ∧ F.length < F1.length then readM doc k (.kids p stop) l1 (mvIn F1 F.length p (-1)) else none
end Go.Proofs.YtkfmengdffpcnaaGreatDoor
namespace Go.Proofs.YtkfmengdffpcnaaGreatDoor
open Go.RowKit Go.Deep Go.ChangeShapes Go.WideShapes
theorem in64_of {z : Int} (h : (Lit.int .i64 z).wf = true) : In64 z := by
  exact bounds_i64 h
theorem open_introw {H : Type} {enc : TypeId × Value → H} {W : World} {a : Option Addr} {len cap : Nat} {d : DataW H} {p : List MemPlace}
    (h : DataW.Trod enc Tryz.prog W 0 (fun _ => true) true 34 (.slice a len cap) d p) : ∃ L, IntRow W a len cap L := by
  obtain ⟨fuel, hf⟩ := h
  rcases open_slice Tryz.underlying34 hf with ⟨hcs, _⟩ | ⟨ad, l, c, m, n, D, Pl, hcs, _, hl, hm, hmm, _, hi⟩
  · simp [Value.cells] at hcs
    obtain ⟨rfl, rfl, rfl⟩ := hcs
    exact ⟨[], SRow.nil, by simp, fun _ => rfl⟩
  · simp [Value.cells] at hcs
    obtain ⟨rfl, rfl, rfl⟩ := hcs
    have hml : len ≤ m := by rw [hmm]; simpa using hl
    have ce : Tryz.prog.cellsOf 3 = 1 := by kernel_rfl
    have each : ∀ i, i < len → ∃ x : Int, W.cell? (ad.add i) = some (.int .i64 x) ∧ In64 x := by
      intro i hil
      obtain ⟨cs', h1, h2⟩ := hi i (by omega)
      rw [ce] at h1
      obtain ⟨_, hlen, hcell⟩ := World.cells?_some h1
      match cs', hlen with
      | [v0], _ =>
        have e0 := hcell 0 (by omega)
        rw [add_add] at e0
        obtain ⟨n0, hn0, _, hw0⟩ := DataW.trod_int Tryz.underlying3 h2
        simp at hn0
        subst hn0
        exact ⟨n0, by simpa using e0, in64_of hw0⟩
    obtain ⟨q, hq⟩ : ∃ q : Nat → Int, ∀ i, i < len → W.cell? (ad.add i) = some (.int .i64 (q i)) ∧ In64 (q i) := by
      refine ⟨fun i => if h : i < len then (each i h).choose else 0, fun i hil => ?_⟩
      simp only [dif_pos hil]
      exact (each i hil).choose_spec
    refine ⟨(List.range len).map q, ⟨by simp, hl, hm, fun x _ => rfl, ?_⟩, ?_, fun h => by cases h⟩
    · rcases Nat.eq_zero_or_pos len with h0 | h0
      · exact .inl h0
      · obtain ⟨b, off, spot⟩ := ad
        have hc := (hq 0 h0).1
        have hspot : spot = none := by simpa [Addr.add] using World.cell?_spot hc
        subst hspot
        refine .inr ⟨b, off, rfl, ?_, ?_⟩
        · have := block_lt hc
          rwa [add_plain] at this
        · intro i x j v hx hv
          obtain ⟨hil, hgx⟩ := List.getElem?_eq_some_iff.1 hx
          have hil' : i < len := by simpa using hil
          simp at hgx
          obtain ⟨h1, _⟩ := hq i hil'
          rw [add_plain] at h1
          rw [hgx] at h1
          obtain ⟨hjl, hgv⟩ := List.getElem?_eq_some_iff.1 hv
          match j, hjl with
          | 0, _ => simp [encZ] at hgv; subst hgv; simpa using h1
    · intro x hx
      obtain ⟨i, hi1, rfl⟩ := List.mem_map.1 hx
      exact (hq i (List.mem_range.1 hi1)).2
theorem slice_cells {H : Type} {enc : TypeId × Value → H} {W : World} {t e : TypeId} {fuel : Nat} {v : Value} {x : DataW H × List MemPlace} (ht : Tryz.prog.underlying t = some (.slice e))
    (h : DataW.trod enc Tryz.prog W 0 (fun _ => true) true fuel t [v] = some x) : ∃ a n c, v = .slice a n c := by
  rcases open_slice ht h with ⟨hcs, _⟩ | ⟨ad, l, c, m, n, D, Pl, hcs, _⟩
  · exact ⟨none, 0, 0, by simpa using hcs⟩
  · exact ⟨some ad, l, c, by simpa using hcs⟩
set_option maxRecDepth 100000 in
theorem open_nodecells {H : Type} {enc : TypeId × Value → H} {W : World} {cs : List Value} {d : DataW H} {p : List MemPlace} {fuel : Nat} (hc : cs.length = 10)
    (h : DataW.trod enc Tryz.prog W 0 (fun _ => true) true fuel 36 cs = some (d, p)) : ∃ x : NodeD, cs = encN x ∧ NodeOk W x := by
  obtain ⟨xs, k, _, _, _, hxl, hff⟩ := DataW.trod_struct Tryz.underlying36 h
  have c3 : Tryz.prog.cellsOf 3 = 1 := by kernel_rfl
  have c9 : Tryz.prog.cellsOf 9 = 1 := by kernel_rfl
  have ca : Tryz.prog.cellsOf 33 = 1 := by kernel_rfl
  have ci : Tryz.prog.cellsOf 34 = 1 := by kernel_rfl
  match cs, hc with
  | [v0, v1, v2, v3, v4, v5, v6, v7, v8, v9], _ =>
    match xs, hxl with
    | [y0, y1, y2, y3, y4, y5, y6, y7, y8, y9], _ =>
      have g0 := hff 0 _ rfl
      have g1 := hff 1 _ rfl
      have g2 := hff 2 _ rfl
      have g3 := hff 3 _ rfl
      have g4 := hff 4 _ rfl
      have g5 := hff 5 _ rfl
      have g6 := hff 6 _ rfl
      have g7 := hff 7 _ rfl
      have g8 := hff 8 _ rfl
      have g9 := hff 9 _ rfl
      simp [c3, c9, ca, ci] at g0 g1 g2 g3 g4 g5 g6 g7 g8 g9
      obtain ⟨n0, hn0, _, hw0⟩ := DataW.trod_int Tryz.underlying3 g0
      obtain ⟨s1, hs1, _, hl1⟩ := DataW.trod_string Tryz.underlying9 g1
      obtain ⟨s2, hs2, _, hl2⟩ := DataW.trod_string Tryz.underlying9 g2
      obtain ⟨s3, hs3, _, hl3⟩ := DataW.trod_string Tryz.underlying9 g3
      obtain ⟨n5, hn5, _, hw5⟩ := DataW.trod_int Tryz.underlying3 g5
      obtain ⟨n7, hn7, _, hw7⟩ := DataW.trod_int Tryz.underlying3 g7
      obtain ⟨n8, hn8, _, hw8⟩ := DataW.trod_int Tryz.underlying3 g8
      obtain ⟨n9, hn9, _, hw9⟩ := DataW.trod_int Tryz.underlying3 g9
      simp at hn0 hs1 hs2 hs3 hn5 hn7 hn8 hn9
      subst hn0 hs1 hs2 hs3 hn5 hn7 hn8 hn9
      obtain ⟨a4, l4, c4, rfl⟩ := slice_cells Tryz.underlying33 g4
      obtain ⟨a6, l6, c6, rfl⟩ := slice_cells Tryz.underlying34 g6
      obtain ⟨A, hA⟩ := open_attrs (enc := enc) (W := W) (a := a4) (len := l4) (cap := c4) (d := y4.1) (p := y4.2) ⟨k, by simpa [Value.cells] using g4⟩
      obtain ⟨K, hK⟩ := open_introw (enc := enc) (W := W) (a := a6) (len := l6) (cap := c6) (d := y6.1) (p := y6.2) ⟨k, by simpa [Value.cells] using g6⟩
      exact ⟨⟨⟨n0, s1, s2, s3, A, n5, K, n7, n8, n9⟩, a4, l4, c4, a6, l6, c6⟩, rfl, hA, hK, hl1, hl2, hl3, in64_of hw0, in64_of hw5, in64_of hw7, in64_of hw8, in64_of hw9⟩
theorem open_noderow {H : Type} {enc : TypeId × Value → H} {W : World} {a : Option Addr} {len cap : Nat} {d : DataW H} {p : List MemPlace}
    (h : DataW.Trod enc Tryz.prog W 0 (fun _ => true) true 22 (.slice a len cap) d p) : ∃ L, NodeRow W a len cap L := by
  obtain ⟨fuel, hf⟩ := h
  rcases open_slice Tryz.underlying22 hf with ⟨hcs, _⟩ | ⟨ad, l, c, m, n, D, Pl, hcs, _, hl, hm, hmm, _, hi⟩
  · simp [Value.cells] at hcs
    obtain ⟨rfl, rfl, rfl⟩ := hcs
    exact ⟨[], SRow.nil, by simp, fun _ => rfl⟩
  · simp [Value.cells] at hcs
    obtain ⟨rfl, rfl, rfl⟩ := hcs
    have hml : len ≤ m := by rw [hmm]; simpa using hl
    have ce : Tryz.prog.cellsOf 36 = 10 := by kernel_rfl
    have each : ∀ i, i < len → ∃ x : NodeD, NodeOk W x ∧ ∀ j v, (encN x)[j]? = some v → W.cell? (ad.add (i * 10 + j)) = some v := by
      intro i hil
      obtain ⟨cs', h1, h2⟩ := hi i (by omega)
      rw [ce] at h1
      obtain ⟨_, hlen, hcell⟩ := World.cells?_some h1
      obtain ⟨x, hx, hok⟩ := open_nodecells hlen h2
      refine ⟨x, hok, fun j v hv => ?_⟩
      have hj : j < 10 := (List.getElem?_eq_some_iff.1 hv).1
      have e0 := hcell j hj
      rw [add_add, hx, hv] at e0
      exact e0
    obtain ⟨q, hq⟩ : ∃ q : Nat → NodeD, ∀ i, i < len → NodeOk W (q i) ∧ ∀ j v, (encN (q i))[j]? = some v → W.cell? (ad.add (i * 10 + j)) = some v := by
      rcases Nat.eq_zero_or_pos len with h0 | h0
      · exact ⟨fun _ => ⟨⟨0, ByteArray.empty, ByteArray.empty, ByteArray.empty, [], 0, [], 0, 0, 0⟩, none, 0, 0, none, 0, 0⟩, fun i hi => by omega⟩
      · refine ⟨fun i => if h : i < len then (each i h).choose else (each 0 h0).choose, fun i hil => ?_⟩
        simp only [dif_pos hil]
        exact (each i hil).choose_spec
    refine ⟨(List.range len).map q, ⟨by simp, hl, hm, fun x _ => rfl, ?_⟩, ?_, fun h => by cases h⟩
    · rcases Nat.eq_zero_or_pos len with h0 | h0
      · exact .inl h0
      · obtain ⟨b, off, spot⟩ := ad
        have hc := (hq 0 h0).2 0 _ rfl
        have hspot : spot = none := by simpa [Addr.add] using World.cell?_spot hc
        subst hspot
        refine .inr ⟨b, off, rfl, ?_, ?_⟩
        · have := block_lt hc
          rwa [add_plain] at this
        · intro i x j v hx hv
          obtain ⟨hil, hgx⟩ := List.getElem?_eq_some_iff.1 hx
          have hil' : i < len := by simpa using hil
          simp at hgx
          have h1 := (hq i hil').2 j v (by rw [hgx]; exact hv)
          rw [add_plain] at h1
          simpa [Nat.add_assoc] using h1
    · intro x hx
      obtain ⟨i, hi1, rfl⟩ := List.mem_map.1 hx
      exact (hq i (List.mem_range.1 hi1)).1
set_option maxRecDepth 100000 in
theorem open_forest {H : Type} {enc : TypeId × Value → H} {W : World} {r : Reach} {b0 : Nat} {v : Value} {d : DataW H} {p : List MemPlace} (hv : Value.okWide Tryz.prog W r b0 24 v)
    (h : DataW.Trod enc Tryz.prog W 0 (fun _ => true) true 24 v d p) : ∃ a len cap m L, v = .agg #[.slice a len cap, .int .i64 m] ∧ NodeRow W a len cap L ∧ In64 m := by
  obtain ⟨cs, rfl, hsz⟩ := okWide_struct Tryz.underlying24 hv
  have hC : Tryz.prog.cellsOf 24 = 2 := by kernel_rfl
  have c3 : Tryz.prog.cellsOf 3 = 1 := by kernel_rfl
  have cn : Tryz.prog.cellsOf 22 = 1 := by kernel_rfl
  obtain ⟨l⟩ := cs
  match l, hsz.trans hC with
  | [v0, v1], _ =>
    obtain ⟨fuel, hf⟩ := h
    obtain ⟨xs, k, _, _, _, hxl, hff⟩ := DataW.trod_struct Tryz.underlying24 hf
    match xs, hxl with
    | [y0, y1], _ =>
      have g0 := hff 0 _ rfl
      have g1 := hff 1 _ rfl
      simp [c3, cn, Value.cells] at g0 g1
      obtain ⟨n1, hn1, _, hw1⟩ := DataW.trod_int Tryz.underlying3 g1
      simp at hn1
      subst hn1
      obtain ⟨a4, l4, c4, rfl⟩ := slice_cells Tryz.underlying22 g0
      obtain ⟨L, hL⟩ := open_noderow (enc := enc) (W := W) (a := a4) (len := l4) (cap := c4) (d := y0.1) (p := y0.2) ⟨k, by simpa [Value.cells] using g0⟩
      exact ⟨a4, l4, c4, n1, L, rfl, hL, in64_of hw1⟩
end Go.Proofs.YtkfmengdffpcnaaGreatDoor
