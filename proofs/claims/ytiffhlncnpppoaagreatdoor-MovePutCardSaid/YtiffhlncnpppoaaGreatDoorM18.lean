/- Texts joined in build order: MoveWant MovePutWalk. -/
import Derived.Test.YtiffhlncnpppoaaGreatDoorM15
import Derived.Test.YtiffhlncnpppoaaGreatDoorM01
import Derived.Test.YtiffhlncnpppoaaGreatDoorM06
namespace Go.Proofs.YtiffhlncnpppoaaGreatDoor
open Go.RowKit
set_option linter.unusedVariables false
section
variable {m : Int}
theorem kids_out {S : St} (h : rightF m S.1 = true) {q t : Nat} (hq : q < S.1.length) (ht : t < S.1.length) : kidsK (outS S q).1 t = (kidsK S.1 t).filter (fun z => z != (q : Int)) := by
  have hx : S.1[q]? = some S.1[q] := List.getElem?_eq_getElem hq
  have hc : S.1[t]? = some S.1[t] := List.getElem?_eq_getElem ht
  have notin : parentK S.1 q ≠ (t : Int) → (S.1[t]).kids.filter (fun z => z != (q : Int)) = (S.1[t]).kids := fun e => List.filter_eq_self.2 (fun z hz => by
    have : z ≠ (q : Int) := fun e2 => by
      obtain ⟨c', h1, _, h3, _⟩ := (right_node h hc).kids z hz
      rw [e2, getC_nat, hx] at h1
      rw [parentK_at hx] at e
      rw [← Option.some.inj h1] at h3
      exact e h3
    simpa using this)
  unfold outS
  by_cases hp : parentK S.1 q = -1
  · rw [if_pos hp, kidsK_get hc]
    exact (notin (by rw [hp]; omega)).symm
  · rw [if_neg hp]
    have hed : Edit S.1 (mvOut S.1 q) (fun j c => if j = q then -1 else c.parent) (fun j c => if (j : Int) = parentK S.1 q then c.kids.filter (fun z => z != (q : Int)) else c.kids) (fun _ c => c.doc) := edF_edit _ _ _ _
    show kidsK (mvOut S.1 q) t = _
    rw [kidsK_get (hed.at_ t _ hc), kidsK_get hc]
    show (if (t : Int) = parentK S.1 q then (S.1[t]).kids.filter (fun z => z != (q : Int)) else (S.1[t]).kids) = _
    by_cases e : (t : Int) = parentK S.1 q
    · rw [if_pos e]
    · rw [if_neg e]
      exact (notin (fun e2 => e e2.symm)).symm
theorem par_out {S : St} {q t : Nat} (ht : t < S.1.length) : parentK (outS S q).1 t = if t = q then -1 else parentK S.1 t := by
  have hc : S.1[t]? = some S.1[t] := List.getElem?_eq_getElem ht
  unfold outS
  by_cases hp : parentK S.1 q = -1
  · rw [if_pos hp]
    by_cases e : t = q
    · rw [if_pos e, e]; exact hp
    · rw [if_neg e]
  · rw [if_neg hp]
    have hed : Edit S.1 (mvOut S.1 q) (fun j c => if j = q then -1 else c.parent) (fun j c => if (j : Int) = parentK S.1 q then c.kids.filter (fun z => z != (q : Int)) else c.kids) (fun _ c => c.doc) := edF_edit _ _ _ _
    show parentK (mvOut S.1 q) t = _
    rw [parentK_at (hed.at_ t _ hc), parentK_at hc]
    rfl
theorem len_out (S : St) (q : Nat) : (outS S q).1.length = S.1.length := by
  unfold outS
  split
  · rfl
  · exact (edF_edit S.1 _ _ _).len
theorem kids_doc {F : List Core} {n t : Nat} {d : Int} (ht : t < F.length) : kidsK (mvDoc F n d) t = kidsK F t ∧ parentK (mvDoc F n d) t = parentK F t := by
  have hc : F[t]? = some F[t] := List.getElem?_eq_getElem ht
  have hed : Edit F (mvDoc F n d) (fun _ c => c.parent) (fun _ c => c.kids) (fun j c => if (j : Int) ∈ allI F n then d else c.doc) := edF_edit _ _ _ _
  exact ⟨by rw [kidsK_get (hed.at_ t _ hc), kidsK_get hc]; rfl, by rw [parentK_at (hed.at_ t _ hc), parentK_at hc]; rfl⟩
theorem len_over (S : St) (q : Nat) (d : Int) : (overS S q d).1.length = S.1.length := by
  unfold overS
  dsimp only
  split
  · exact len_out S q
  · exact (edF_edit (outS S q).1 _ _ _).len.trans (len_out S q)
theorem kids_over {S : St} {q t : Nat} {d : Int} (ht : t < S.1.length) : kidsK (overS S q d).1 t = kidsK (outS S q).1 t ∧ parentK (overS S q d).1 t = parentK (outS S q).1 t := by
  unfold overS
  dsimp only
  split
  · exact ⟨rfl, rfl⟩
  · exact kids_doc (by rw [len_out]; exact ht)
theorem kids_in {F : List Core} {q p t : Nat} {b : Int} (ht : t < F.length) : kidsK (mvIn F q p b) t = (if t = p then insB (kidsK F t) b q else kidsK F t) ∧ parentK (mvIn F q p b) t = if t = q then (p : Int) else parentK F t := by
  have hc : F[t]? = some F[t] := List.getElem?_eq_getElem ht
  have hed : Edit F (mvIn F q p b) (fun j c => if j = q then (p : Int) else c.parent) (fun j c => if j = p then insB c.kids b q else c.kids) (fun _ c => c.doc) := edF_edit _ _ _ _
  exact ⟨by rw [kidsK_get (hed.at_ t _ hc), kidsK_get hc]; rfl, by rw [parentK_at (hed.at_ t _ hc), parentK_at hc]; rfl⟩
theorem len_inS (S : St) (q p : Nat) (b : Int) : (inS p b S q).1.length = S.1.length :=
  (edF_edit (overS S q (docK S.1 p)).1 _ _ _).len.trans (len_over S q _)
theorem kids_inS {S : St} (h : rightF m S.1 = true) {q p t : Nat} {b : Int} (hq : q < S.1.length) (ht : t < S.1.length) :
    kidsK (inS p b S q).1 t = (if t = p then insB ((kidsK S.1 t).filter (fun z => z != (q : Int))) b q else (kidsK S.1 t).filter (fun z => z != (q : Int))) ∧ parentK (inS p b S q).1 t = if t = q then (p : Int) else parentK S.1 t := by
  obtain ⟨h1, h2⟩ := kids_in (F := (overS S q (docK S.1 p)).1) (q := q) (p := p) (b := b) (t := t) (by rw [len_over]; exact ht)
  obtain ⟨h3, h4⟩ := kids_over (S := S) (q := q) (d := docK S.1 p) ht
  rw [h3, kids_out h hq ht] at h1
  rw [h4, par_out ht] at h2
  refine ⟨h1, h2.trans ?_⟩
  by_cases e : t = q
  · rw [if_pos e, if_pos e]
  · rw [if_neg e, if_neg e, if_neg e]
def putL (K : List Int) (b : Int) (l : List Int) : List Int := l.foldl (fun K q => insB (K.filter (fun z => z != q)) b q) K
theorem not_cons (q : Int) (r K : List Int) : (K.filter (fun z => z != q)).filter (fun z => !r.contains z) = K.filter (fun z => !(q :: r).contains z) := by
  rw [List.filter_filter]
  refine List.filter_congr (fun z _ => ?_)
  rw [List.contains_cons]
  cases r.contains z <;> cases e : (z == q) <;> simp [bne, e]
theorem not_nil (K : List Int) : K.filter (fun z => !([] : List Int).contains z) = K := List.filter_eq_self.2 (fun z _ => rfl)
structure PutTo (F G : List Core) (p : Nat) (b : Int) (l : List Int) : Prop where
  len : G.length = F.length
  kp : kidsK G p = putL (kidsK F p) b l
  ko : ∀ t : Nat, t < F.length → t ≠ p → kidsK G t = (kidsK F t).filter (fun z => !l.contains z)
  par : ∀ t : Nat, t < F.length → parentK G t = if l.contains (t : Int) then (p : Int) else parentK F t
theorem fold_in {p : Nat} {b : Int} : ∀ (l : List Int) (S : St), PutInv m S.1 p l b → PutTo S.1 ((l.map Int.toNat).foldl (inS p b) S).1 p b l ∧ rightF m ((l.map Int.toNat).foldl (inS p b) S).1 = true
  | [], S, h => ⟨⟨rfl, rfl, fun t _ _ => (not_nil _).symm, fun t _ => by simp⟩, h.right⟩
  | z :: r, S, h => by
    obtain ⟨q, rfl, hq, _⟩ := h.ls z List.mem_cons_self
    have h2 := h.ins
    obtain ⟨ih, hr⟩ := fold_in r (inS p b S q) h2
    refine ⟨?_, hr⟩
    have hlen := len_inS S q p b
    have hk := fun t ht => kids_inS (b := b) (p := p) h.right hq (t := t) ht
    refine ⟨ih.len.trans hlen, ?_, fun t ht hne => ?_, fun t ht => ?_⟩
    · refine ih.kp.trans ?_
      rw [(hk p h.lt).1, if_pos rfl]
      rfl
    · refine (ih.ko t (by rw [hlen]; exact ht) hne).trans ?_
      rw [(hk t ht).1, if_neg hne, not_cons]
    · refine (ih.par t (by rw [hlen]; exact ht)).trans ?_
      rw [(hk t ht).2, List.contains_cons]
      by_cases e : t = q
      · subst e; simp
      · have e2 : ((t : Int) == (q : Int)) = false := beq_eq_false_iff_ne.2 (by omega)
        rw [if_neg e, e2, Bool.false_or]
structure OutTo (F G : List Core) (l : List Int) : Prop where
  len : G.length = F.length
  kids : ∀ t : Nat, t < F.length → kidsK G t = (kidsK F t).filter (fun z => !l.contains z)
  par : ∀ t : Nat, t < F.length → parentK G t = if l.contains (t : Int) then -1 else parentK F t
theorem fold_out {p : Nat} {b : Int} {l : List Int} : ∀ (r : List Int) (S : St), (∀ z ∈ r, z ∈ l) → PutInv m S.1 p l b → OutTo S.1 ((r.map Int.toNat).foldl outS S).1 r ∧ PutInv m ((r.map Int.toNat).foldl outS S).1 p l b
  | [], S, _, h => ⟨⟨rfl, fun t _ => (not_nil _).symm, fun t _ => by simp⟩, h⟩
  | z :: r, S, hz, h => by
    have hm := hz z List.mem_cons_self
    obtain ⟨q, rfl, hq, _⟩ := h.ls z hm
    obtain ⟨ih, hr⟩ := fold_out r (outS S q) (fun y hy => hz y (List.mem_cons_of_mem _ hy)) (h.outs hm)
    have hlen := len_out S q
    refine ⟨⟨ih.len.trans hlen, fun t ht => ?_, fun t ht => ?_⟩, hr⟩
    · refine (ih.kids t (by rw [hlen]; exact ht)).trans ?_
      rw [kids_out h.right hq ht, not_cons]
    · refine (ih.par t (by rw [hlen]; exact ht)).trans ?_
      rw [par_out ht, List.contains_cons]
      by_cases e : t = q
      · subst e; simp
      · have e2 : ((t : Int) == (q : Int)) = false := beq_eq_false_iff_ne.2 (by omega)
        rw [if_neg e, e2, Bool.false_or]
end
theorem putL_end : ∀ (l K : List Int), l.Nodup → putL K (-1) l = K.filter (fun z => !l.contains z) ++ l
  | [], K, _ => by rw [not_nil, List.append_nil]; rfl
  | q :: r, K, h => by
    obtain ⟨h1, h2⟩ := List.nodup_cons.1 h
    show putL (insB (K.filter (fun z => z != q)) (-1) q) (-1) r = _
    rw [putL_end r _ h2]
    unfold insB
    rw [if_pos rfl, List.filter_append, not_cons]
    have e : [q].filter (fun z => !r.contains z) = [q] := List.filter_eq_self.2 (fun z hz => by rw [List.mem_singleton] at hz; subst hz; simpa using h1)
    rw [e, List.append_assoc]
    rfl
theorem putL_mid {b : Int} (hb : b ≠ -1) : ∀ (l A B : List Int), l.Nodup → b ∉ l → b ∉ A → putL (A ++ b :: B) b l = A.filter (fun z => !l.contains z) ++ l ++ b :: B.filter (fun z => !l.contains z)
  | [], A, B, _, _, _ => by rw [not_nil, not_nil, List.append_nil]; rfl
  | q :: r, A, B, h, hl, hA => by
    obtain ⟨h1, h2⟩ := List.nodup_cons.1 h
    have hbq : b ≠ q := fun e => hl (by rw [e]; exact List.mem_cons_self)
    have hbr : b ∉ r := fun e => hl (List.mem_cons_of_mem _ e)
    show putL (insB ((A ++ b :: B).filter (fun z => z != q)) b q) b r = _
    have e1 : (A ++ b :: B).filter (fun z => z != q) = A.filter (fun z => z != q) ++ b :: B.filter (fun z => z != q) := by
      rw [List.filter_append, List.filter_cons, if_pos (by simpa using hbq)]
    have hA' : b ∉ A.filter (fun z => z != q) := fun e => hA (List.mem_filter.1 e).1
    have e2 : insB (A.filter (fun z => z != q) ++ b :: B.filter (fun z => z != q)) b q = (A.filter (fun z => z != q) ++ [q]) ++ b :: B.filter (fun z => z != q) := by
      unfold insB
      rw [if_neg hb, findN_mid hA', List.take_left' rfl, List.drop_left' rfl, List.append_assoc]
      rfl
    have hA2 : b ∉ A.filter (fun z => z != q) ++ [q] := fun e => by
      rcases List.mem_append.1 e with e | e
      · exact hA' e
      · exact hbq (List.mem_singleton.1 e)
    have e3 : [q].filter (fun z => !r.contains z) = [q] := List.filter_eq_self.2 (fun z hz => by rw [List.mem_singleton] at hz; subst hz; simpa using h1)
    rw [e1, e2, putL_mid hb r _ _ h2 hbr hA2, List.filter_append, not_cons, not_cons, e3]
    simp only [List.append_assoc, List.cons_append, List.nil_append]
def wantK (b : Int) (l : List Int) (k : Int) : List Int := (if k = b then l else []) ++ (if l.contains k then [] else [k])
def wantL (K : List Int) (b : Int) (l : List Int) : List Int := K.flatMap (wantK b l) ++ (if b = -1 then l else [])
theorem flat_not {b : Int} {l : List Int} : ∀ (A : List Int), b ∉ A → A.flatMap (wantK b l) = A.filter (fun z => !l.contains z)
  | [], _ => rfl
  | k :: A, h => by
    have hk : k ≠ b := fun e => h (by rw [e]; exact List.mem_cons_self)
    rw [List.flatMap_cons, flat_not A (fun e => h (List.mem_cons_of_mem _ e)), List.filter_cons]
    unfold wantK
    rw [if_neg hk]
    cases l.contains k <;> simp
theorem want_put {K l : List Int} {b : Int} (hn : K.Nodup) (h0 : ∀ z ∈ K, 0 ≤ z) (hl : l.Nodup) (hb : b = -1 ∨ (b ∈ K ∧ b ∉ l)) : wantL K b l = putL (K.filter (fun z => !l.contains z)) b l ∧ wantL K b l = putL K b l := by
  have ff : ∀ A : List Int, (A.filter (fun z => !l.contains z)).filter (fun z => !l.contains z) = A.filter (fun z => !l.contains z) := fun A => List.filter_eq_self.2 (fun z hz => (List.mem_filter.1 hz).2)
  rcases hb with rfl | ⟨h1, h2⟩
  · have hK : (-1 : Int) ∉ K := fun e => by have := h0 _ e; omega
    unfold wantL
    rw [if_pos rfl, flat_not K hK, putL_end l _ hl, putL_end l _ hl, ff]
    exact ⟨rfl, rfl⟩
  · have hb0 := h0 b h1
    obtain ⟨A, B, rfl⟩ := List.append_of_mem h1
    have hA : b ∉ A := fun e => (List.nodup_append.1 hn).2.2 b e b List.mem_cons_self rfl
    have hB : b ∉ B := (List.nodup_cons.1 (List.nodup_append.1 hn).2.1).1
    have hw : wantL (A ++ b :: B) b l = A.filter (fun z => !l.contains z) ++ l ++ b :: B.filter (fun z => !l.contains z) := by
      unfold wantL
      rw [if_neg (by omega), List.append_nil, List.flatMap_append, List.flatMap_cons, flat_not A hA, flat_not B hB]
      unfold wantK
      rw [if_pos rfl, if_neg (by simpa using h2)]
      simp only [List.append_assoc, List.cons_append, List.nil_append]
    have e1 : (A ++ b :: B).filter (fun z => !l.contains z) = A.filter (fun z => !l.contains z) ++ b :: B.filter (fun z => !l.contains z) := by
      rw [List.filter_append, List.filter_cons, if_pos (by simpa using h2)]
    rw [hw, e1, putL_mid (by omega) l A B hl h2 hA, putL_mid (by omega) l _ _ hl h2 (fun e => hA (List.mem_filter.1 e).1), ff, ff]
    exact ⟨rfl, rfl⟩
structure PutDone (m : Int) (F G : List Core) (n p : Nat) (l K W : List Int) : Prop where
  right : rightF m G = true
  len : G.length = F.length
  kp : kidsK G p = W
  kn : kindK F n = 3 → kidsK G n = []
  ls : ∀ z ∈ l, ∃ q : Nat, z = q ∧ q < F.length ∧ parentK G q = (p : Int)
theorem put_done {m : Int} {F : List Core} {n p : Nat} {c : Int} {cp : Core} (h : mayZ m F n p c = 0) (hp : F[p]? = some cp) (hn : n < F.length) :
    PutDone m F (putS (F, []) n p (beforeZ m F n p c)).1 n p (partsZ F n) cp.kids (wantL cp.kids (beforeZ m F n p c) (partsZ F n)) := by
  have PO := PutOk.of h hp
  have PI := PO.inv
  obtain ⟨x, hx⟩ : ∃ x, F[n]? = some x := ⟨_, List.getElem?_eq_getElem hn⟩
  have hk3 : kindK F n = x.kind := kindK_at hx
  have hK0 : kidsK F p = cp.kids := kidsK_get hp
  have hwant := want_put (K := cp.kids) (l := partsZ F n) (b := beforeZ m F n p c) (right_node PO.right hp).once (kids_nat PO.right hp) PO.once (by
    have := PI.before
    rwa [hK0] at this)
  unfold putS
  dsimp only
  by_cases e : x.kind = 3
  · rw [if_pos (hk3.trans e)]
    have hl : partsZ F n = x.kids := by rw [parts_at hx, if_pos e]
    obtain ⟨h1, h2⟩ := fold_out (partsZ F n) (F, []) (fun _ hz => hz) PI
    obtain ⟨h3, h4⟩ := fold_in (partsZ F n) _ h2
    have hnp : n ≠ p := fun e2 => by
      obtain ⟨_, _, h5, _⟩ := may_ok h
      have h6 : overZ m F n p = true := by rw [← e2]; exact (overZ_iff PO.right hn hn).2 (holds_refl n)
      rw [h6] at h5
      cases h5
    refine ⟨h4, h3.len.trans h1.len, ?_, fun _ => ?_, fun z hz => ?_⟩
    · rw [h3.kp, h1.kids p (List.getElem?_eq_some_iff.1 hp).1, hK0]
      exact hwant.1.symm
    · rw [h3.ko n (by rw [h1.len]; exact hn) hnp, h1.kids n hn, kidsK_get hx, hl]
      refine List.filter_eq_nil_iff.2 (fun z hz => ?_)
      have := (List.mem_filter.1 hz).1
      simpa using this
    · obtain ⟨q, rfl, hq, _⟩ := PI.ls z hz
      refine ⟨q, rfl, hq, ?_⟩
      rw [h3.par q (by rw [h1.len]; exact hq), if_pos (by simpa using hz)]
  · rw [if_neg (by rw [hk3]; exact e)]
    obtain ⟨h3, h4⟩ := fold_in (partsZ F n) (F, []) PI
    refine ⟨h4, h3.len, ?_, fun e2 => absurd (hk3.symm.trans e2) e, fun z hz => ?_⟩
    · rw [h3.kp, hK0]
      exact hwant.2.symm
    · obtain ⟨q, rfl, hq, _⟩ := PI.ls z hz
      refine ⟨q, rfl, hq, ?_⟩
      rw [h3.par q hq, if_pos (by simpa using hz)]
theorem put_gone {m : Int} {F G : List Core} {n p : Nat} {l K W : List Int} (h : PutDone m F G n p l K W) (hp : p < F.length) {q : Nat} (hq : (q : Int) ∈ l) :
    ∃ H N, remZ m G q = (H, N, 0) ∧ H.length = F.length ∧ parentK H q = -1 ∧ (q : Int) ∉ kidsK H p ∧ (kidsK H p).length = W.length - 1 := by
  obtain ⟨q', e, hql, hpar⟩ := h.ls _ hq
  obtain rfl : q = q' := by omega
  have hqG : q < G.length := by rw [h.len]; exact hql
  have hpG : p < G.length := by rw [h.len]; exact hp
  have hne : parentK G q ≠ -1 := by rw [hpar]; omega
  have hxq : G[q]? = some G[q] := List.getElem?_eq_getElem hqG
  have hxp : G[p]? = some G[p] := List.getElem?_eq_getElem hpG
  have hkp : (G[p]).kids = W := by rw [← h.kp, kidsK_get hxp]
  have hmem : (q : Int) ∈ W := by
    rcases (right_node h.right hxq).par with e | ⟨_, d, h1, _, h3⟩
    · exact absurd (by rw [parentK_at hxq]; exact e) hne
    · rw [parentK_at hxq] at hpar
      rw [hpar, getC_nat, hxp] at h1
      rw [← hkp, Option.some.inj h1]
      exact h3
  have hnd : W.Nodup := by rw [← hkp]; exact (right_node h.right hxp).once
  have hk := kids_out (S := (G, [])) h.right hqG hpG
  have hkW : kidsK (outS (G, []) q).1 p = W.filter (fun z => z != (q : Int)) := hk.trans (by rw [show kidsK (G, ([] : List NoteD)).1 p = W from h.kp])
  refine ⟨(outS (G, []) q).1, (outS (G, []) q).2, ?_, (len_out _ _).trans h.len, ?_, ?_, ?_⟩
  · unfold remZ
    rw [thereF_of h.right hqG, if_pos rfl, if_neg hne, Int.toNat_natCast]
  · rw [par_out (S := (G, [])) hqG, if_pos rfl]
  · rw [hkW]
    simp
  · rw [hkW]
    obtain ⟨i, hi1, hi2⟩ := find_at hmem
    rw [← erase_filter hnd hi2, List.length_eraseIdx, if_pos (List.getElem?_eq_some_iff.1 hi2).1]
end Go.Proofs.YtiffhlncnpppoaaGreatDoor
namespace Go.Proofs.YtiffhlncnpppoaaGreatDoor
open Go.RowKit
theorem has_in {l : List Int} {z : Int} : ((hasZ l z : Int) == 0) = !l.contains z := by
  unfold hasZ
  cases h : l.contains z with
  | true =>
    have h1 : 0 < l.countP (fun y => y == z) := List.countP_pos_iff.2 ⟨z, by simpa using h, by simp⟩
    exact beq_eq_false_iff_ne.2 (by omega)
  | false =>
    have h1 : l.countP (fun y => y == z) = 0 := List.countP_eq_zero.2 (fun y hy e => by
      have e : y = z := by simpa using e
      rw [← e] at h
      have : y ∉ l := by simpa using h
      exact this hy)
    rw [h1]
    rfl
theorem want_step {K : List Int} {b z : Int} {l : List Int} {k : Nat} (h : K[k]? = some z) : (K.take (k + 1)).flatMap (wantK b l) = ((K.take k).flatMap (wantK b l) ++ if z = b then l else []) ++ if l.contains z then [] else [z] := by
  rw [List.take_add_one, h, List.flatMap_append]
  show _ ++ (([z] : List Int).flatMap (wantK b l)) = _
  rw [List.flatMap_cons, List.flatMap_nil, List.append_nil, List.append_assoc]
  rfl
theorem insZ_ok {m : Int} {F : List Core} {n p : Nat} {c : Int} (h : mayZ m F n p c = 0) : insZ m F n p c = ((putS (F, []) n p (beforeZ m F n p c)).1, (putS (F, []) n p (beforeZ m F n p c)).2, 0) := by
  unfold insZ
  rw [if_pos h, Int.toNat_natCast, Int.toNat_natCast]
theorem insZ_no {m : Int} {F : List Core} {n p c : Int} (h : mayZ m F n p c ≠ 0) : insZ m F n p c = (F, [], mayZ m F n p c) := by
  unfold insZ
  rw [if_neg h]
theorem mrem_to {m : Int} {F : List Core} {n : Int} {R : List Core × List NoteD × Int} (hR : remZ m F n = R) (W : World) (a : Option Addr) (len cap : Nat) (M : List NodeD) (h : NodeRow W a len cap M) (hc : coreL M = F) (hs : smallF M) (hm : In64 m) (hn : In64 n) (hg : ErrVar W) :
    Calls Tryz.prog 16 #[forV a len cap m, .int .i64 n] W (MvPost W m R) := by
  rw [← hR, ← hc]
  exact mremove_any a len cap m M n W h hm hn hs hg
def KidOf (K : List Int) (C : Int) : Prop := C = -1 ∨ C ∈ K
set_option maxHeartbeats 32000000 in
set_option maxRecDepth 100000 in
theorem movePut_walk (a : Option Addr) (len cap : Nat) (m : Int) (L : List NodeD) (x y z : Int) (last : Bool) (w : World) (h : NodeRow w a len cap L) (hm : In64 m) (hx : 0 ≤ x ∧ x ≤ 255) (hy : 0 ≤ y ∧ y ≤ 255) (hz : 0 ≤ z ∧ z ≤ 255) (hg : ErrVar w) :
    Calls Tryz.prog 6 #[forV a len cap m, .int .u8 x, .int .u8 y, .int .u8 z, .bool last] w fun e w' => e = .returned (.bool true) ∧ Below w.heap.size w w' := by
  have AW := Lib.hid (fun W h => awake6_any W h)
  have BX := Lib.hid (Box.start (m := m) h)
  have hl0 := h.len64
  have HL := Lib.hid h.hlen
  have HM := Lib.hid hm
  have HH := Lib.hid h
  have HG := Lib.hid hg
  have z0 := BX.out.c0
  have z1 := BX.out.c1
  clear h hm hg
  cases c0 : shortF L with
  | false =>
    have C0 := Lib.hid c0
    go_enter Tryz.func6, Tryz.ntmps6
    go_wp2_with (first
                    | (go_at_call 13; (with_reducible refine (AW.out _ (HG.out.keep BX.out.below)).mono ?_); rintro e w1 ⟨rfl, hb⟩; have BX := Lib.hid (BX.out.keep hb); have z0 := BX.out.c0; have z1 := BX.out.c1; clear hb)
                    | (go_at_call 14; (with_reducible refine (refshortF_any _ _ _ _ _ _ BX.out.row).mono ?_); rintro e w1 ⟨rfl, hb⟩; have BX := Lib.hid (BX.out.keep hb); have z0 := BX.out.c0; have z1 := BX.out.c1; clear hb)
                    | (go_at_call 30; (with_reducible refine (HR.out _ BX.out.row).mono ?_); rintro e w1 ⟨rfl, hb⟩; have BX := Lib.hid (BX.out.keep hb); have z0 := BX.out.c0; have z1 := BX.out.c1; clear hb))
    go_ret
    exact ⟨rfl, BX.out.below⟩
  | true =>
    have SM := Lib.hid (small_of_short c0)
    have HK60 : Hid (∀ q ∈ L, q.core.kids.length ≤ 60) := Lib.hid (by
      have h1 := c0
      unfold shortF at h1
      simp only [Bool.and_eq_true, decide_eq_true_eq, List.all_eq_true] at h1
      intro q hq
      have := h1.2 q hq
      unfold shortN at this
      simp only [Bool.and_eq_true, decide_eq_true_eq] at this
      omega)
    cases c1 : rightF m (coreL L) with
    | false =>
      have HR : Hid (∀ W, NodeRow W a len cap L → Calls Tryz.prog 30 #[forV a len cap m] W fun e w' => e = .returned (.bool false) ∧ Below W.heap.size W w') := Lib.hid (fun W h => by
        have := rightF_any a len cap m L W h HM.out SM.out
        rwa [c1] at this)
      clear c1
      go_enter Tryz.func6, Tryz.ntmps6
      go_wp2_with (first
                      | (go_at_call 13; (with_reducible refine (AW.out _ (HG.out.keep BX.out.below)).mono ?_); rintro e w1 ⟨rfl, hb⟩; have BX := Lib.hid (BX.out.keep hb); have z0 := BX.out.c0; have z1 := BX.out.c1; clear hb)
                      | (go_at_call 14; (with_reducible refine (refshortF_any _ _ _ _ _ _ BX.out.row).mono ?_); rintro e w1 ⟨rfl, hb⟩; have BX := Lib.hid (BX.out.keep hb); have z0 := BX.out.c0; have z1 := BX.out.c1; clear hb)
                      | (go_at_call 30; (with_reducible refine (HR.out _ BX.out.row).mono ?_); rintro e w1 ⟨rfl, hb⟩; have BX := Lib.hid (BX.out.keep hb); have z0 := BX.out.c0; have z1 := BX.out.c1; clear hb))
      go_ret
      exact ⟨rfl, BX.out.below⟩
    | true =>
      have HR : Hid (∀ W, NodeRow W a len cap L → Calls Tryz.prog 30 #[forV a len cap m] W fun e w' => e = .returned (.bool true) ∧ Below W.heap.size W w') := Lib.hid (fun W h => by
        have := rightF_any a len cap m L W h HM.out SM.out
        rwa [c1] at this)
      have HRR := Lib.hid c1
      have hlc : (coreL L).length = len := by rw [coreL_len, HL.out]
      have HLC := Lib.hid hlc
      have hlp : 0 < len := by
        have := right_len c1
        rwa [hlc] at this
      clear c1 hlc
      obtain ⟨X, hX⟩ : ∃ X : Nat, x % (len : Int) = X := ⟨(x % (len : Int)).toNat, by have := Int.emod_nonneg x (show (len : Int) ≠ 0 by omega); omega⟩
      obtain ⟨Y, hY⟩ : ∃ Y : Nat, y % (len : Int) = Y := ⟨(y % (len : Int)).toNat, by have := Int.emod_nonneg y (show (len : Int) ≠ 0 by omega); omega⟩
      have hXl : X < len := by have := Int.emod_lt_of_pos x (show (0 : Int) < len by omega); omega
      have hYl : Y < len := by have := Int.emod_lt_of_pos y (show (0 : Int) < len by omega); omega
      have HX64 : Hid (In64 (X : Int)) := Lib.hid ⟨by omega, by omega⟩
      have HY64 : Hid (In64 (Y : Int)) := Lib.hid ⟨by omega, by omega⟩
      obtain ⟨b, off, ny, rfl, hblt, hgy, hat2, hoky⟩ := HH.out.get hYl
      obtain ⟨b2, off2, nx, hab, -, hgx, hatx, -⟩ := HH.out.get hXl
      obtain ⟨rfl, rfl⟩ : b = b2 ∧ off = off2 := by injection hab with h1; injection h1 with h2 h3; exact ⟨h2, h3⟩
      have CY := Lib.hid (stays hat2.c6 hblt)
      have CXK := Lib.hid (stays hatx.c0 hblt)
      have KR := Lib.hid hoky.kids
      have hk64 := KR.out.len64
      have HYC := Lib.hid (coreL_get hgy)
      have HXC := Lib.hid (coreL_get hgx)
      have hkl : ny.kN ≤ 60 := by
        rw [← KR.out.hlen]
        exact HK60.out ny (List.mem_of_getElem? hgy)
      clear hgy hgx hat2 hatx hoky hab
      go_enter Tryz.func6, Tryz.ntmps6
      go_upto_region 5 with (first
                                | (go_at_call 13; (with_reducible refine (AW.out _ (HG.out.keep BX.out.below)).mono ?_); rintro e w1 ⟨rfl, hb⟩; have BX := Lib.hid (BX.out.keep hb); have z0 := BX.out.c0; have z1 := BX.out.c1; clear hb)
                                | (go_at_call 14; (with_reducible refine (refshortF_any _ _ _ _ _ _ BX.out.row).mono ?_); rintro e w1 ⟨rfl, hb⟩; have BX := Lib.hid (BX.out.keep hb); have z0 := BX.out.c0; have z1 := BX.out.c1; clear hb)
                                | (go_at_call 30; (with_reducible refine (HR.out _ BX.out.row).mono ?_); rintro e w1 ⟨rfl, hb⟩; have BX := Lib.hid (BX.out.keep hb); have z0 := BX.out.c0; have z1 := BX.out.c1; clear hb))
      (have E0 := Ext.cell z0 BX.out.lt; have E1 := Ext.cell z1 BX.out.lt; refine wp_region_ext (by kernel_rfl) (by kernel_rfl) ?_; (repeat (go_big_quiet_step (fail))); refine wpQuiet_nil ?_; intro w' hw'; obtain ⟨⟨w2, hb2⟩, hw''⟩ := hw'; dsimp only at hw''; subst hw''; clear E0 E1; rw [hX, hY]; clear hX hY z0 z1; have BX := Lib.hid (BX.out.keep hb2); have z0 := BX.out.c0; have z1 := BX.out.c1; clear hb2)
      have cy := CY.out _ BX.out.below
      go_upto_region 8 with fail
      go_cut [61] (fun c wx => c = .bool (decide (0 < (ny.kN : Int)) && !last) ∧ wx = w')
      case first =>
        by_cases hk0 : 0 < (ny.kN : Int)
        · cases last
          all_goals
            go_wp2
            go_meet
            exact ⟨by rw [decide_eq_true hk0]; rfl, rfl⟩
        · go_wp2
          go_meet
          exact ⟨by rw [decide_eq_false (show ¬ 0 < (ny.kN : Int) by omega)]; rfl, rfl⟩
      case rest =>
        obtain ⟨rfl, rfl⟩ := hcut
        generalize hB : (decide (0 < (ny.kN : Int)) && !last) = B
        have HBB := Lib.hid hB
        clear hB
        go_upto_if 61 with fail
        go_cut [13, 14] (fun c s wx => wx = wc ∧ s = .slice ny.kA ny.kN ny.kC ∧ ∃ C : Int, c = .int .i64 C ∧ Hid (KidOf ny.core.kids C))
        case first =>
          cases B with
          | false =>
            go_wp2
            go_meet
            exact ⟨rfl, rfl, -1, rfl, Lib.hid (.inl rfl)⟩
          | true =>
            have hkp : 0 < ny.kN := by
              have h1 := HBB.out
              rw [Bool.and_eq_true, decide_eq_true_eq] at h1
              omega
            obtain ⟨K, hK⟩ : ∃ K : Nat, z % (ny.kN : Int) = K := ⟨(z % (ny.kN : Int)).toNat, by have := Int.emod_nonneg z (show (ny.kN : Int) ≠ 0 by omega); omega⟩
            have hKl : K < ny.kN := by have := Int.emod_lt_of_pos z (show (0 : Int) < ny.kN by omega); omega
            obtain ⟨bk, ok, zc, hka, hbk, hzc, hcc, -⟩ := KR.out.get hKl
            rw [hka] at CY
            rw [hka]
            have cy := CY.out _ BX.out.below
            have c5 := stays hcc hbk _ BX.out.below
            have HCH : Hid (KidOf ny.core.kids zc) := Lib.hid (.inr (List.mem_of_getElem? hzc))
            have ek : ((ny.kN : Int) == 0) = false := beq_eq_false_iff_ne.2 (by omega)
            have HKA := Lib.hid hka
            clear hzc hcc hka hkp
            go_wp2
            go_meet
            exact ⟨rfl, by rw [HKA.out], zc, rfl, HCH⟩
        case rest =>
          obtain ⟨rfl, rfl, C, rfl, HCH⟩ := hcut
          have HC64 : Hid (In64 C) := Lib.hid (by
            rcases HCH.out with rfl | h1
            · exact ⟨by decide, by decide⟩
            · exact KR.out.inb C h1)
          obtain ⟨E, hE⟩ : ∃ E, mayZ m (coreL L) X Y C = E := ⟨_, rfl⟩
          have HE := Lib.hid hE
          obtain ⟨l, hl⟩ : ∃ l, partsZ (coreL L) X = l := ⟨_, rfl⟩
          obtain ⟨bz, hbz⟩ : ∃ bz, beforeZ m (coreL L) X Y C = bz := ⟨_, rfl⟩
          have GP : Hid (∀ W, NodeRow W (some ⟨b, off, none⟩) len cap L → Calls Tryz.prog 34 #[forV (some ⟨b, off, none⟩) len cap m, .int .i64 X] W (OrdNew W l)) := Lib.hid (fun W h => by
            rw [← hl]
            exact vpartsNew_any _ len cap m L X W h HX64.out SM.out)
          have GB : Hid (∀ W, NodeRow W (some ⟨b, off, none⟩) len cap L → Calls Tryz.prog 35 #[forV (some ⟨b, off, none⟩) len cap m, .int .i64 X, .int .i64 Y, .int .i64 C] W fun e w' => e = .returned (.int .i64 bz) ∧ Below W.heap.size W w') := Lib.hid (fun W h => by
            rw [← hbz]
            exact vbefore_any _ len cap m L X Y C W h HM.out HX64.out HY64.out HC64.out SM.out)
          have GM : Hid (∀ W, NodeRow W (some ⟨b, off, none⟩) len cap L → Calls Tryz.prog 36 #[forV (some ⟨b, off, none⟩) len cap m, .int .i64 X, .int .i64 Y, .int .i64 C] W fun e w' => e = .returned (.int .i64 E) ∧ Below W.heap.size W w') := Lib.hid (fun W h => by
            rw [← hE]
            exact vmay_any _ len cap m L X Y C W h HM.out HX64.out HY64.out HC64.out SM.out)
          have HPN : Hid (l.length ≤ 60) := Lib.hid (by
            rw [← hl, parts_at HXC.out]
            split
            · obtain ⟨x1, hx1, e1⟩ : ∃ x ∈ L, x.core = nx.core := by
                have := List.mem_of_getElem? HXC.out
                unfold coreL at this
                obtain ⟨x, h1, h2⟩ := List.mem_map.1 this
                exact ⟨x, h1, h2⟩
              rw [← e1]
              exact HK60.out x1 hx1
            · simp)
          have HBZ := Lib.hid hbz
          have HLL := Lib.hid hl
          clear hE hl hbz cy
          go_upto_region 10 with fail
          go_cut [15, 16] (fun q r wx => True ∧ ∃ (pa : Option Addr) (pl pc : Nat), q = .slice pa pl pc ∧ r = .int .i64 bz ∧ Hid (Box w wx w.heap.size (some ⟨b, off, none⟩) len cap m L (coreL L)) ∧ Hid (IntRow wx pa pl pc l))
          case first =>
            have BD := Lib.hid (BX.out.keep ((Below.refl _ _).drew))
            go_region_with (first
              | (go_at_call 35; (refine (GB.out _ BD.out.row).mono ?_); rintro e w1 ⟨rfl, hb⟩; have BD := Lib.hid (BD.out.keep hb); have z0 := BD.out.c0; have z1 := BD.out.c1; (try (have IR := Lib.hid (IR.out.below hb))); clear hb)
              | (go_at_call 34; (refine (GP.out _ BD.out.row).mono ?_); rintro e w1 ⟨pa, pl, pc, rfl, hrl, hb, -⟩; have BD := Lib.hid (BD.out.keep hb); have z0 := BD.out.c0; have z1 := BD.out.c1; have IR := Lib.hid hrl; clear hb hrl))
            all_goals go_wp2
            all_goals
              go_meet
              exact ⟨trivial, _, _, _, rfl, rfl, BD, IR⟩
          case rest =>
            obtain ⟨-, pa, pl, pc, rfl, rfl, BX, IR⟩ := hcut
            clear z0 z1
            have z0 := BX.out.c0
            have z1 := BX.out.c1
            have hpl60 : pl ≤ 60 := by rw [← IR.out.hlen]; exact HPN.out
            have hpl64 := IR.out.len64
            by_cases h0 : E = 0
            · subst h0
              have PD0 := put_done HE.out HYC.out (by rw [HLC.out]; exact hXl)
              rw [HLL.out, HBZ.out] at PD0
              have HINS := insZ_ok HE.out
              rw [HBZ.out] at HINS
              obtain ⟨G, hG⟩ : ∃ G, (putS (coreL L, []) X Y bz).1 = G := ⟨_, rfl⟩
              obtain ⟨N0, hN0⟩ : ∃ N0, (putS (coreL L, []) X Y bz).2 = N0 := ⟨_, rfl⟩
              rw [hG] at PD0
              rw [hG, hN0] at HINS
              have PD := Lib.hid PD0
              have GI : Hid (∀ W, NodeRow W (some ⟨b, off, none⟩) len cap L → ErrVar W → Calls Tryz.prog 15 #[forV (some ⟨b, off, none⟩) len cap m, .int .i64 X, .int .i64 Y, .int .i64 C] W (MvPost W m (G, N0, 0))) := Lib.hid (fun W h1 h2 => mins_to HINS W _ len cap L h1 rfl SM.out HM.out HX64.out HY64.out HC64.out h2)
              have HNB : Hid (bz ∈ ny.core.kids → bz ∉ l) := Lib.hid (fun hb => by
                have PI := (PutOk.of HE.out HYC.out).inv
                rcases PI.before with e | ⟨_, h2⟩
                · rw [HBZ.out] at e
                  have := kids_nat HRR.out HYC.out _ hb
                  omega
                · rw [HBZ.out, HLL.out] at h2
                  exact h2)
              have HKN : Hid (∀ z ∈ ny.core.kids, 0 ≤ z) := Lib.hid (kids_nat HRR.out HYC.out)
              clear HINS PD0 hG hN0
              have cy := CY.out _ BX.out.below
              go_wp2_with (go_at_call 15; (with_reducible refine (GI.out _ BX.out.row (HG.out.keep BX.out.below)).mono ?_); rintro e w2 ⟨a2, len2, cap2, M2, va, vl, vc, rfl, hr2, hc2, hs2, -, hb2, -⟩; have BX := Lib.hid (BX.out.keep hb2); have B17 := Lib.hid (MBox.new (m := m) BX.out.below hr2 hc2); have HS17 := Lib.hid hs2; have hbb := below_box w2 (forB a2 len2 cap2 m); have BX := Lib.hid (BX.out.keep hbb); have IR := Lib.hid (IR.out.below (hb2.trans (hbb.mono hb2.size))); clear z0 z1 cy; have z0 := BX.out.c0; have z1 := BX.out.c1; have cy := CY.out _ BX.out.below; clear hr2 hc2 hs2 hb2 hbb)
              obtain ⟨wl, hwl⟩ : ∃ wl, w2.alloc (forB a2 len2 cap2 m) = wl := ⟨_, rfl⟩
              rw [hwl] at BX B17 IR z0 z1 cy
              rw [hwl]
              clear hwl
              obtain ⟨i0, hi0, hq0, hq1, hq2⟩ := info_parts int_info
              have HKLN := Lib.hid KR.out.hlen
              go_loopw [20, 21] (fun tw i wr => ∃ (k n : Nat) (Wk : List Int), k ≤ ny.kN ∧ i = .int .i64 k ∧ n ≤ 100 * k ∧ Hid (Wk = (ny.core.kids.take k).flatMap (wantK bz l)) ∧ Hid (Below wl.heap.size wl wr) ∧ Hid (wr.ownsRow wl.heap.size 3 1 tw n (Wk.flatMap encZ))) (fun _ i _ => ny.kN - (intOf i).toNat)
              case atStart => exact ⟨0, 0, [], Nat.zero_le _, rfl, Nat.zero_le _, Lib.hid rfl, Lib.hid (Below.refl _ _), Lib.hid (World.ownsRow_nil _ _ _ _)⟩
              case round => as_aux_lemma =>
                clear z0 z1 cy
                obtain ⟨k, n, Wk, hk, rfl, hn, HWK, HB, HO⟩ := hrel
                have BXR := Lib.hid (BX.out.keep HB.out)
                have z0 := BXR.out.c0
                have IRR := Lib.hid (IR.out.below HB.out)
                have KRR := Lib.hid (KR.out.below BXR.out.below)
                have cy := CY.out _ BXR.out.below
                by_cases hlt : k < ny.kN
                · obtain ⟨bk, ok, zk, hka, hbk, hzk, hck, hin⟩ := KRR.out.get hlt
                  rw [hka] at cy
                  have HST := Lib.hid (want_step (b := bz) (l := l) hzk)
                  have HZM := Lib.hid (List.mem_of_getElem? hzk)
                  have hk64' : (k : Int) + 1 ≤ 9223372036854775807 := by omega
                  clear hka hzk
                  go_upto_if 118 with fail
                  go_cut [20] (fun tv wx => True ∧ ∃ (n2 : Nat) (W2 : List Int), n2 ≤ n + 60 ∧ Hid (W2 = Wk ++ if zk = bz then l else []) ∧ Hid (Below wl.heap.size wl wx) ∧ Hid (wx.ownsRow wl.heap.size 3 1 tv n2 (W2.flatMap encZ)))
                  case first =>
                    obtain ⟨q0, hq0e⟩ : ∃ q0, (zk == bz) = q0 := ⟨_, rfl⟩
                    rw [hq0e]
                    cases q0 with
                    | true =>
                      have HZB : Hid (zk = bz) := Lib.hid (beq_iff_eq.1 hq0e)
                      clear hq0e
                      go_wp2_with (at_builtin; (refine wpList_append_rows rfl (.tmp 119) (.tmp 120) 51 rfl 3 i0 _ 1 8 Tryz.underlying51 hi0 hq0 hq1 hq2 rfl (by decide) wl.heap.size _ n Wk l rfl HO.out _ _ _ rfl IRR.out.row (fun x _ => encZ_one x) (by unfold maxLen; omega) (by omega) HB.out.size IRR.out.hnil ?_); intro v3 w3 hown3 hg3 hat3; have HB3 := Lib.hid (HB.out.grown hg3 HB.out.size (fun j hj => (HO.out.lt j hj).1)); have HO3 := Lib.hid hown3; clear hown3 hg3 hat3)
                      go_meet
                      exact ⟨trivial, n + pl, Wk ++ l, by omega, Lib.hid (by rw [if_pos HZB.out]), HB3, HO3⟩
                    | false =>
                      have HZB : Hid (¬ zk = bz) := Lib.hid (beq_eq_false_iff_ne.1 hq0e)
                      clear hq0e
                      go_wp2
                      go_meet
                      exact ⟨trivial, n, Wk, by omega, Lib.hid (by rw [if_neg HZB.out, List.append_nil]), HB, HO⟩
                  case rest =>
                    obtain ⟨-, n2, W2, hn2, HW2, HB2, HO2⟩ := hcut
                    have IR2 := Lib.hid (IR.out.below HB2.out)
                    obtain ⟨q, hq⟩ : ∃ q, l.contains zk = q := ⟨_, rfl⟩
                    have f2 : ((hasZ l zk : Int) == 0) = !q := by rw [has_in, hq]
                    have HQQ := Lib.hid hq
                    clear hq z0 cy
                    cases q with
                    | true =>
                      go_wp2_with (go_at_call 37; (refine (refhas_any _ _ _ _ _ _ IR2.out).mono ?_); rintro e w4 ⟨rfl, rfl⟩)
                      go_roundw
                      case rel => exact ⟨k + 1, n2, W2, by omega, by go_num, by omega, Lib.hid (by rw [HST.out, ← HWK.out, HQQ.out, if_pos rfl, List.append_nil]; exact HW2.out), HB2, HO2⟩
                      case measure => simp [intOf]; omega
                    | false =>
                      go_wp2_with (first
                        | (go_at_call 37; (refine (refhas_any _ _ _ _ _ _ IR2.out).mono ?_); rintro e w4 ⟨rfl, rfl⟩)
                        | (at_builtin; (refine wpList_append_rows rfl (.tmp 126) (.tmp 128) 51 rfl 3 i0 _ 1 8 Tryz.underlying51 hi0 hq0 hq1 hq2 rfl (by decide) wl.heap.size _ n2 W2 [zk] rfl (HO2.out.alloc _) _ 1 1 rfl (own_one _ _ _ _ rfl rfl) (fun x _ => encZ_one x) (by unfold maxLen; omega) (by omega) (by have := HB2.out.size; simp; omega) (fun h => by cases h) ?_); intro v3 w3 hown3 hg3 hat3; have HB3 := Lib.hid (below_own HB2.out HO2.out hg3); have HO3 := Lib.hid hown3; clear hown3 hg3 hat3))
                      go_roundw
                      case rel => exact ⟨k + 1, n2 + 1, W2 ++ [zk], by omega, by go_num, by omega, Lib.hid (by rw [HST.out, ← HWK.out, HQQ.out, HW2.out]; rfl), HB3, HO3⟩
                      case measure => simp [intOf]; omega
                · have hkk : k = ny.kN := by omega
                  subst hkk
                  have HWA : Hid (Wk = ny.core.kids.flatMap (wantK bz l)) := Lib.hid (by rw [HWK.out, List.take_of_length_le (by rw [HKLN.out]; exact Nat.le_refl _)])
                  go_upto_if 131 with fail
                  go_cut [20] (fun tv wx => True ∧ ∃ (n2 : Nat) (W2 : List Int), n2 ≤ 7000 ∧ Hid (W2 = wantL ny.core.kids bz l) ∧ Hid (Below wl.heap.size wl wx) ∧ Hid (wx.ownsRow wl.heap.size 3 1 tv n2 (W2.flatMap encZ)))
                  case first =>
                    by_cases hzb : bz = -1
                    · have f1 : (bz == -1) = true := beq_iff_eq.2 hzb
                      have HZB := Lib.hid hzb
                      clear hzb
                      go_wp2_with (at_builtin; (refine wpList_append_rows rfl (.tmp 132) (.tmp 133) 51 rfl 3 i0 _ 1 8 Tryz.underlying51 hi0 hq0 hq1 hq2 rfl (by decide) wl.heap.size _ n Wk l rfl HO.out _ _ _ rfl IRR.out.row (fun x _ => encZ_one x) (by unfold maxLen; omega) (by omega) HB.out.size IRR.out.hnil ?_); intro v3 w3 hown3 hg3 hat3; have HB3 := Lib.hid (HB.out.grown hg3 HB.out.size (fun j hj => (HO.out.lt j hj).1)); have HO3 := Lib.hid hown3; clear hown3 hg3 hat3)
                      go_meet
                      exact ⟨trivial, n + pl, Wk ++ l, by omega, Lib.hid (by unfold wantL; rw [if_pos HZB.out, HWA.out]), HB3, HO3⟩
                    · have f1 : (bz == -1) = false := beq_eq_false_iff_ne.2 hzb
                      have HZB := Lib.hid hzb
                      clear hzb
                      go_wp2
                      go_meet
                      exact ⟨trivial, n, Wk, by omega, Lib.hid (by unfold wantL; rw [if_neg HZB.out, List.append_nil, HWA.out]), HB, HO⟩
                  case rest =>
                    obtain ⟨-, n2, W2, hn2, HW2, HB2, HO2⟩ := hcut
                    clear z0 cy BXR IRR KRR HWA HWK HB HO hn hlt hk
                    have HKG : Hid (kidsK G Y = W2) := Lib.hid (by rw [HW2.out]; exact PD.out.kp)
                    obtain ⟨aw, cw, rfl, hrw, -⟩ := IntRow.of_own_new (M := W2) (n := n2) (by have := HO2.out.1; rw [flat_len (fun z _ => encZ_len z)] at this; omega) HO2.out (fun z hz => by
                      have hGY : G[Y]? = some (G[Y]'(by rw [PD.out.len, HLC.out]; exact hYl)) := List.getElem?_eq_getElem _
                      rw [← HKG.out, kidsK_get hGY] at hz
                      obtain ⟨c, h1, _, _, _⟩ := (right_node PD.out.right hGY).kids z hz
                      obtain ⟨h3, h4, _⟩ := getC_some h1
                      rw [PD.out.len, HLC.out] at h4
                      exact ⟨by omega, by omega⟩)
                    have RW := Lib.hid hrw
                    have B2 := Lib.hid (B17.out.keep HB2.out)
                    have BXR := Lib.hid (BX.out.keep HB2.out)
                    have IRR := Lib.hid (IR.out.below HB2.out)
                    have hl2 : len2 = len := by
                      have h1 := B2.out.box.row.hlen
                      have h2 := congrArg List.length B2.out.box.core
                      rw [coreL_len, PD.out.len, HLC.out] at h2
                      omega
                    subst hl2
                    obtain ⟨g, go, my, rfl, hgl, hmy, hay, hoy⟩ := B2.out.box.row.get hYl
                    obtain ⟨g', go', mx, hgg, -, hmx, hax, hox⟩ := B2.out.box.row.get hXl
                    obtain ⟨rfl, rfl⟩ : g = g' ∧ go = go' := by injection hgg with h1; injection h1 with h2 h3; exact ⟨h2, h3⟩
                    have HMYW : Hid (my.core.kids = W2) := Lib.hid (by
                      have h1 := coreL_get hmy
                      rw [B2.out.box.core] at h1
                      rw [← HKG.out, kidsK_get h1])
                    have HMX3 : Hid (nx.core.kind = 3 → mx.core.kids = []) := Lib.hid (fun e => by
                      have h1 := coreL_get hmx
                      rw [B2.out.box.core] at h1
                      rw [← kidsK_get h1]
                      exact PD.out.kn (by rw [kindK_at HXC.out]; exact e))
                    have y0 := B2.out.box.c0
                    have y6 := hay.c6
                    have x6 := hax.c6
                    have z0 := BXR.out.c0
                    have kx := CXK.out _ BXR.out.below
                    have HOY := Lib.hid hoy.kids
                    have HOX := Lib.hid hox.kids
                    have GIN : Hid (Calls Tryz.prog 38 #[.slice my.kA my.kN my.kC, .slice aw n2 cw] wc fun e w' => e = .returned (.bool true) ∧ Below wc.heap.size wc w') := Lib.hid ((refints_any _ _ _ _ _ _ _ _ wc HOY.out RW.out).mono (by
                      rintro e w' ⟨rfl, q, rfl⟩
                      exact ⟨by rw [decide_eq_true HMYW.out], below_drewN (Below.refl _ _) q⟩))
                    obtain ⟨wd, rfl⟩ : ∃ wd, wd = wc := ⟨_, rfl⟩
                    go_upto_region 25 with fail
                    go_cut [162] (fun c wx => c = .bool false ∧ Hid (Below wd.heap.size wd wx))
                    case first =>
                      by_cases k3 : nx.core.kind = 3
                      · have f3 : (nx.core.kind == 3) = true := beq_iff_eq.2 k3
                        have f4 : ((mx.kN : Int) != 0) = false := by
                          have h1 := HOX.out.hlen
                          rw [HMX3.out k3] at h1
                          have h1 : 0 = mx.kN := h1
                          rw [← h1]
                          rfl
                        clear k3
                        go_wp2_with (go_at_call 38; (refine GIN.out.mono ?_); rintro e w5 ⟨rfl, hb5⟩; have HB5 := Lib.hid hb5; have kx := CXK.out _ (BXR.out.keep hb5).below; have z0 := (BXR.out.keep hb5).c0; have y0 := (B2.out.keep hb5).box.c0; have x6 := (hb5.cell (p := ⟨g, go + X * 10 + 6, none⟩) hgl).trans x6; clear hb5)
                        go_meet
                        exact ⟨rfl, HB5⟩
                      · have f3 : (nx.core.kind == 3) = false := beq_eq_false_iff_ne.2 k3
                        clear k3
                        go_wp2_with (go_at_call 38; (refine GIN.out.mono ?_); rintro e w5 ⟨rfl, hb5⟩; have HB5 := Lib.hid hb5; have kx := CXK.out _ (BXR.out.keep hb5).below; have z0 := (BXR.out.keep hb5).c0; clear hb5)
                        go_meet
                        exact ⟨rfl, HB5⟩
                    case rest =>
                      obtain ⟨rfl, HB5⟩ := hcut
                      obtain ⟨we, rfl⟩ : ∃ we, we = wc := ⟨_, rfl⟩
                      have B3 := Lib.hid (B2.out.keep HB5.out)
                      have IR3 := Lib.hid (IRR.out.below HB5.out)
                      have HWL : Hid (W2.length = n2) := Lib.hid RW.out.hlen
                      have HPD : Hid (PutDone m (coreL L) G X Y l ny.core.kids W2) := Lib.hid (by rw [HW2.out]; exact PD.out)
                      clear y0 y6 x6 z0 kx GIN HOY HOX HMX3 HMYW hmy hmx hay hax hoy hox hrw hgg HB2 HO2
                      go_wp2
                      go_loopw [23] (fun i wr => ∃ k : Nat, k ≤ pl ∧ i = .int .i64 k ∧ Hid (Below we.heap.size we wr)) (fun i _ => pl - (intOf i).toNat)
                      case atStart => exact ⟨0, Nat.zero_le _, rfl, Lib.hid (Below.refl _ _)⟩
                      case round => as_aux_lemma =>
                        obtain ⟨k, hk, rfl, HBk⟩ := hrel
                        by_cases hlt : k < pl
                        · obtain ⟨bp, op, q0, hpa, hbp, hz, hcz, hin⟩ := (IR3.out.below HBk.out).get hlt
                          have hmem := List.mem_of_getElem? hz
                          obtain ⟨q, e, hql, hpar⟩ := HPD.out.ls _ hmem
                          subst e
                          have hqlen : q < len2 := by rw [← HLC.out]; exact hql
                          obtain ⟨H, NH, hrem, hHl, hHp, hHn, hHk⟩ := put_gone HPD.out (by rw [HLC.out]; exact hYl) hmem
                          have HQ64 : Hid (In64 (q : Int)) := Lib.hid ⟨by omega, by omega⟩
                          have GRM : Hid (∀ W a2 lenq cap2 M, NodeRow W a2 lenq cap2 M → coreL M = G → smallF M → ErrVar W → Calls Tryz.prog 16 #[forV a2 lenq cap2 m, .int .i64 q] W fun e w' => ∃ a len cap M va vl vc, e = .returned (.tuple #[forV a len cap m, .slice va vl vc, .int .i64 0]) ∧ NodeRow w' a len cap M ∧ coreL M = H ∧ Below W.heap.size W w' ∧ MvNew W.heap.size a va M) := Lib.hid (fun W a2 lenq cap2 M h1 hc hs h2 => (mrem_to hrem W a2 lenq cap2 M h1 hc hs HM.out HQ64.out h2).mono (by rintro e w' ⟨a, len, cap, M, va, vl, vc, rfl, r1, r2, -, -, r5, r6⟩; exact ⟨a, len, cap, M, va, vl, vc, rfl, r1, r2, r5, r6⟩))
                          have B4 := Lib.hid (B3.out.keep HBk.out)
                          have HW2p : 1 ≤ n2 := by
                            have h1 := HPD.out.kp
                            have hGq : G[q]? = some (G[q]'(by rw [HPD.out.len]; exact hql)) := List.getElem?_eq_getElem _
                            rcases (right_node HPD.out.right hGq).par with e | ⟨_, d, h2, _, h3⟩
                            · rw [parentK_at hGq] at hpar; omega
                            · rw [parentK_at hGq] at hpar
                              rw [hpar] at h2
                              have h4 : (q : Int) ∈ kidsK G Y := by unfold kidsK; rw [h2]; exact h3
                              rw [h1] at h4
                              rw [← HWL.out]
                              exact List.length_pos_of_mem h4
                          have y0 := B4.out.box.c0
                          have y1 := B4.out.box.c1
                          have HH1 := Lib.hid hHl
                          have HH2 := Lib.hid hHp
                          have HH3 := Lib.hid hHn
                          have HH4 := Lib.hid hHk
                          have hk64' : (k : Int) + 1 ≤ 9223372036854775807 := by omega
                          subst hpa
                          clear hz hin hmem hpar hrem hHl hHp hHn hHk
                          go_upto_region 30 with fail
                          go_cut [24, 26] (fun hq er wx => True ∧ ∃ (bh : Nat) (a3 : Option Addr) (len3 cap3 : Nat) (M3 : List NodeD), hq = .pointer (some ⟨bh, 0, none⟩) ∧ er = .int .i64 0 ∧ Hid (Below wr.heap.size wr wx) ∧ Hid (MBox w wx bh a3 len3 cap3 m M3 H))
                          case first =>
                            have BD := Lib.hid (B4.out.keep ((Below.refl _ _).drew))
                            have HZD : Hid (Below wr.heap.size wr (wr.alloc (.cells #[.slice none 0 0, .int .i64 0] 24)).drew) := Lib.hid (below_box wr _).drew
                            have BDA := Lib.hid (B4.out.keep HZD.out)
                            have hlt17 := B4.out.box.lt
                            have ya0 := fun o => (B4.out.keep (below_box wr o)).box.c0
                            have ya1 := fun o => (B4.out.keep (below_box wr o)).box.c1
                            have yap := fun o => ((below_box wr o).cell (p := ⟨bp, op + k, none⟩) hbp).trans hcz
                            have ZB : Hid (MBox w (wr.alloc (.cells #[.slice none 0 0, .int .i64 0] 24)).drew wr.heap.size none 0 0 0 [] []) := Lib.hid ((MBox.new (m := 0) B4.out.box.below ⟨SRow.nil, (fun z hz => by cases hz), fun _ => rfl⟩ rfl).keep (Below.refl _ _).drew)
                            go_region_with (first
                              | (go_at_call 16; (with_reducible refine (GRM.out _ _ _ _ _ BD.out.box.row BD.out.box.core HS17.out (HG.out.keep BD.out.box.below)).mono ?_); rintro e w7 ⟨a3, len3, cap3, M3, vh, ul, uc, rfl, hr3, hc3, hb3, hv3⟩; have HB7 := Lib.hid (((Below.refl wr.heap.size wr).drew).trans hb3); have BH := Lib.hid (MBox.new (m := m) (BD.out.keep hb3).box.below hr3 hc3); have HB8 := Lib.hid (HB7.out.trans ((below_box w7 (forB a3 len3 cap3 m)).mono HB7.out.size)); clear hr3 hc3 hb3 hv3)
                              | (go_at_call 16; (with_reducible refine (GRM.out _ _ _ _ _ BDA.out.box.row BDA.out.box.core HS17.out (HG.out.keep BDA.out.box.below)).mono ?_); rintro e w7 ⟨a3, len3, cap3, M3, vh, ul, uc, rfl, hr3, hc3, hb3, hv3⟩; have HB8 := Lib.hid (((HZD.out.trans (hb3.mono HZD.out.size)).setCell (p := ⟨wr.heap.size, 0, none⟩) (Nat.le_refl _) (.slice a3 len3 cap3)).setCell (p := ⟨wr.heap.size, 1, none⟩) (Nat.le_refl _) (.int .i64 m)); have BH := Lib.hid (ZB.out.mv (m2 := m) hb3 hr3 hc3 hv3); have t0 := (ZB.out.keep hb3).box.c0; have t1 := (ZB.out.keep hb3).box.c1; have tf := (ZB.out.keep hb3).free; clear hr3 hc3 hb3 hv3))
                            all_goals go_wp2
                            all_goals
                              go_meet
                              exact ⟨trivial, _, _, _, _, _, rfl, rfl, HB8, BH⟩
                          case rest =>
                            obtain ⟨-, bh, a3, len3, cap3, M3, rfl, rfl, HB8, BH⟩ := hcut
                            clear y0 y1
                            have hl3 : len3 = len2 := by
                              have h1 := BH.out.box.row.hlen
                              have h2 := congrArg List.length BH.out.box.core
                              rw [coreL_len, HH1.out, HLC.out] at h2
                              omega
                            subst hl3
                            obtain ⟨g3, o3, hy3, rfl, hgl3, hmy, hay, hoy⟩ := BH.out.box.row.get hYl
                            obtain ⟨g4, o4, hq3, hgg, -, hmq, haq, -⟩ := BH.out.box.row.get hqlen
                            obtain ⟨rfl, rfl⟩ : g3 = g4 ∧ o3 = o4 := by injection hgg with h1; injection h1 with h2 h3; exact ⟨h2, h3⟩
                            have hpq : hq3.core.parent = -1 := by
                              have h1 := coreL_get hmq
                              rw [BH.out.box.core] at h1
                              rw [← parentK_at h1]
                              exact HH2.out
                            have hkq : kidsK H Y = hy3.core.kids := by
                              have h1 := coreL_get hmy
                              rw [BH.out.box.core] at h1
                              exact kidsK_get h1
                            have hkn : hy3.kN = n2 - 1 := by
                              rw [← hoy.kids.hlen, ← hkq, HH4.out, HWL.out]
                            have hcq := haq.c5
                            rw [hpq] at hcq
                            have E0 := Ext.cell BH.out.box.c0 BH.out.box.lt
                            have E5 := Ext.cell hcq hgl3
                            have E6 := Ext.cell hay.c6 hgl3
                            have hcp := (HB8.out.cell (p := ⟨bp, op + k, none⟩) hbp).trans hcz
                            have EP := Ext.cell hcp (Nat.lt_of_lt_of_le hbp HB8.out.size)
                            have EH : Hid (∀ v : Ext wc, Calls Tryz.prog 37 #[.slice hy3.kA hy3.kN hy3.kC, .int .i64 q] v.v fun e w' => e = .returned (.int .i64 0) ∧ v.v = w') := Lib.hid (fun v => by
                              have h1 := refhas_any _ _ _ _ (q : Int) v.v (hoy.kids.below v.below)
                              have h2 : hasZ hy3.core.kids (q : Int) = 0 := List.countP_eq_zero.2 (fun z hz e => HH3.out (by rw [hkq]; have e : z = (q : Int) := by simpa using e
                                                                                                                             rw [← e]; exact hz))
                              rwa [h2] at h1)
                            have f5 : ((hy3.kN : Int) != (n2 : Int) - 1) = false := by
                              rw [hkn]
                              simp
                              omega
                            have f6 : ((-1 : Int) != -1) = false := rfl
                            have f7 : ((0 : Int) != 0) = false := rfl
                            clear hmy hmq hay haq hoy hpq hkq hkn hcq hcp hgg
                            go_upto_region 31 with fail
                            refine wp_region_ext (by kernel_rfl) (by kernel_rfl) ?_
                            repeat (go_big_quiet_step (first | (go_at_call 37; exact Ext.call_same (EH.out _))))
                            refine wpQuiet_nil ?_
                            intro w9 hw'
                            obtain ⟨⟨w10, hb10⟩, hw''⟩ := hw'
                            dsimp only at hw''
                            subst hw''
                            have HB11 := Lib.hid (HBk.out.trans ((HB8.out.trans (hb10.mono HB8.out.size)).mono HBk.out.size))
                            clear E0 E5 E6 EP hb10
                            go_wp2
                            go_roundw
                            case rel => exact ⟨k + 1, hlt, by go_num, HB11⟩
                            case measure => simp [intOf]; omega
                        · go_wp2
                          go_ret
                          exact ⟨rfl, BXR.out.below.trans ((HB5.out.trans (HBk.out.mono HB5.out.size)).mono BXR.out.below.size)⟩
            · have e1 : (E != 0) = true := bne_iff_ne.2 h0
              have e2 : (E == E) = true := beq_iff_eq.2 rfl
              have GI : Hid (∀ W, NodeRow W (some ⟨b, off, none⟩) len cap L → ErrVar W → Calls Tryz.prog 15 #[forV (some ⟨b, off, none⟩) len cap m, .int .i64 X, .int .i64 Y, .int .i64 C] W (MvPost W m (coreL L, [], E))) := Lib.hid (fun W h1 h2 => mins_to (by rw [insZ_no (by rw [HE.out]; exact h0), HE.out]) W _ len cap L h1 rfl SM.out HM.out HX64.out HY64.out HC64.out h2)
              clear h0
              go_wp2_with (first
                | (go_at_call 15; (with_reducible refine (GI.out _ BX.out.row (HG.out.keep BX.out.below)).mono ?_); rintro e w2 ⟨a2, len2, cap2, M2, va, vl, vc, rfl, -, -, -, -, hb2, -⟩; have BX := Lib.hid (BX.out.keep hb2); have BX := Lib.hid (BX.out.keep (below_box w2 (forB a2 len2 cap2 m))); clear z0 z1; have z0 := BX.out.c0; have z1 := BX.out.c1; clear hb2)
                | (go_at_call 36; (with_reducible refine (GM.out _ BX.out.row).mono ?_); rintro e w3 ⟨rfl, hb⟩; have BX := Lib.hid (BX.out.keep hb); clear hb))
              go_ret
              exact ⟨rfl, BX.out.below⟩
end Go.Proofs.YtiffhlncnpppoaaGreatDoor
