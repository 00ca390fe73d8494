/- Texts joined in build order: MoveWant MoveTold MoveTold2. -/
import Derived.Test.YtclledmgiliggaaGreatDoorP36
import Derived.Test.YtclledmgiliggaaGreatDoorP38
namespace Go.Proofs.YtclledmgiliggaaGreatDoor
open Go.RowKit
set_option linter.unusedVariables false
section
variable {m : Int}
theorem kids_out {S : St} (h : rightF m S.1 = true) {q t : Nat} (hq : q < S.1.length) (ht : t < S.1.length) : kidsK (outS S q).1 t = (kidsK S.1 t).filter (fun z => z != (q : Int)) := by
  have hx : S.1[q]? = some S.1[q] := List.getElem?_eq_getElem hq
  have hc : S.1[t]? = some S.1[t] := List.getElem?_eq_getElem ht
  have notin : parentK S.1 q ≠ (t : Int) → (S.1[t]).kids.filter (fun z => z != (q : Int)) = (S.1[t]).kids := fun e => List.filter_eq_self.2 (fun z hz => by
    have : z ≠ (q : Int) := fun e2 => by
      obtain ⟨c', h1, _, h3, _⟩ := (right_node h hc).kids z hz
      rw [e2, getC_nat, hx] at h1
      rw [parentK_at hx] at e
      rw [← Option.some.inj h1] at h3
      exact e h3
    simpa using this)
  unfold outS
  by_cases hp : parentK S.1 q = -1
  · rw [if_pos hp, kidsK_get hc]
    exact (notin (by rw [hp]; omega)).symm
  · rw [if_neg hp]
    have hed : Edit S.1 (mvOut S.1 q) (fun j c => if j = q then -1 else c.parent) (fun j c => if (j : Int) = parentK S.1 q then c.kids.filter (fun z => z != (q : Int)) else c.kids) (fun _ c => c.doc) := edF_edit _ _ _ _
    show kidsK (mvOut S.1 q) t = _
    rw [kidsK_get (hed.at_ t _ hc), kidsK_get hc]
    show (if (t : Int) = parentK S.1 q then (S.1[t]).kids.filter (fun z => z != (q : Int)) else (S.1[t]).kids) = _
    by_cases e : (t : Int) = parentK S.1 q
    · rw [if_pos e]
    · rw [if_neg e]
      exact (notin (fun e2 => e e2.symm)).symm
theorem par_out {S : St} {q t : Nat} (ht : t < S.1.length) : parentK (outS S q).1 t = if t = q then -1 else parentK S.1 t := by
  have hc : S.1[t]? = some S.1[t] := List.getElem?_eq_getElem ht
  unfold outS
  by_cases hp : parentK S.1 q = -1
  · rw [if_pos hp]
    by_cases e : t = q
    · rw [if_pos e, e]; exact hp
    · rw [if_neg e]
  · rw [if_neg hp]
    have hed : Edit S.1 (mvOut S.1 q) (fun j c => if j = q then -1 else c.parent) (fun j c => if (j : Int) = parentK S.1 q then c.kids.filter (fun z => z != (q : Int)) else c.kids) (fun _ c => c.doc) := edF_edit _ _ _ _
    show parentK (mvOut S.1 q) t = _
    rw [parentK_at (hed.at_ t _ hc), parentK_at hc]
    rfl
theorem len_out (S : St) (q : Nat) : (outS S q).1.length = S.1.length := by
  unfold outS
  split
  · rfl
  · exact (edF_edit S.1 _ _ _).len
theorem kids_doc {F : List Core} {n t : Nat} {d : Int} (ht : t < F.length) : kidsK (mvDoc F n d) t = kidsK F t ∧ parentK (mvDoc F n d) t = parentK F t := by
  have hc : F[t]? = some F[t] := List.getElem?_eq_getElem ht
  have hed : Edit F (mvDoc F n d) (fun _ c => c.parent) (fun _ c => c.kids) (fun j c => if (j : Int) ∈ allI F n then d else c.doc) := edF_edit _ _ _ _
  exact ⟨by rw [kidsK_get (hed.at_ t _ hc), kidsK_get hc]; rfl, by rw [parentK_at (hed.at_ t _ hc), parentK_at hc]; rfl⟩
theorem len_over (S : St) (q : Nat) (d : Int) : (overS S q d).1.length = S.1.length := by
  unfold overS
  dsimp only
  split
  · exact len_out S q
  · exact (edF_edit (outS S q).1 _ _ _).len.trans (len_out S q)
theorem kids_over {S : St} {q t : Nat} {d : Int} (ht : t < S.1.length) : kidsK (overS S q d).1 t = kidsK (outS S q).1 t ∧ parentK (overS S q d).1 t = parentK (outS S q).1 t := by
  unfold overS
  dsimp only
  split
  · exact ⟨rfl, rfl⟩
  · exact kids_doc (by rw [len_out]; exact ht)
theorem kids_in {F : List Core} {q p t : Nat} {b : Int} (ht : t < F.length) : kidsK (mvIn F q p b) t = (if t = p then insB (kidsK F t) b q else kidsK F t) ∧ parentK (mvIn F q p b) t = if t = q then (p : Int) else parentK F t := by
  have hc : F[t]? = some F[t] := List.getElem?_eq_getElem ht
  have hed : Edit F (mvIn F q p b) (fun j c => if j = q then (p : Int) else c.parent) (fun j c => if j = p then insB c.kids b q else c.kids) (fun _ c => c.doc) := edF_edit _ _ _ _
  exact ⟨by rw [kidsK_get (hed.at_ t _ hc), kidsK_get hc]; rfl, by rw [parentK_at (hed.at_ t _ hc), parentK_at hc]; rfl⟩
theorem len_inS (S : St) (q p : Nat) (b : Int) : (inS p b S q).1.length = S.1.length :=
  (edF_edit (overS S q (docK S.1 p)).1 _ _ _).len.trans (len_over S q _)
theorem kids_inS {S : St} (h : rightF m S.1 = true) {q p t : Nat} {b : Int} (hq : q < S.1.length) (ht : t < S.1.length) :
    kidsK (inS p b S q).1 t = (if t = p then insB ((kidsK S.1 t).filter (fun z => z != (q : Int))) b q else (kidsK S.1 t).filter (fun z => z != (q : Int))) ∧ parentK (inS p b S q).1 t = if t = q then (p : Int) else parentK S.1 t := by
  obtain ⟨h1, h2⟩ := kids_in (F := (overS S q (docK S.1 p)).1) (q := q) (p := p) (b := b) (t := t) (by rw [len_over]; exact ht)
  obtain ⟨h3, h4⟩ := kids_over (S := S) (q := q) (d := docK S.1 p) ht
  rw [h3, kids_out h hq ht] at h1
  rw [h4, par_out ht] at h2
  refine ⟨h1, h2.trans ?_⟩
  by_cases e : t = q
  · rw [if_pos e, if_pos e]
  · rw [if_neg e, if_neg e, if_neg e]
def putL (K : List Int) (b : Int) (l : List Int) : List Int := l.foldl (fun K q => insB (K.filter (fun z => z != q)) b q) K
theorem not_cons (q : Int) (r K : List Int) : (K.filter (fun z => z != q)).filter (fun z => !r.contains z) = K.filter (fun z => !(q :: r).contains z) := by
  rw [List.filter_filter]
  refine List.filter_congr (fun z _ => ?_)
  rw [List.contains_cons]
  cases r.contains z <;> cases e : (z == q) <;> simp [bne, e]
theorem not_nil (K : List Int) : K.filter (fun z => !([] : List Int).contains z) = K := List.filter_eq_self.2 (fun z _ => rfl)
structure PutTo (F G : List Core) (p : Nat) (b : Int) (l : List Int) : Prop where
  len : G.length = F.length
  kp : kidsK G p = putL (kidsK F p) b l
  ko : ∀ t : Nat, t < F.length → t ≠ p → kidsK G t = (kidsK F t).filter (fun z => !l.contains z)
  par : ∀ t : Nat, t < F.length → parentK G t = if l.contains (t : Int) then (p : Int) else parentK F t
theorem fold_in {p : Nat} {b : Int} : ∀ (l : List Int) (S : St), PutInv m S.1 p l b → PutTo S.1 ((l.map Int.toNat).foldl (inS p b) S).1 p b l ∧ rightF m ((l.map Int.toNat).foldl (inS p b) S).1 = true
  | [], S, h => ⟨⟨rfl, rfl, fun t _ _ => (not_nil _).symm, fun t _ => by simp⟩, h.right⟩
  | z :: r, S, h => by
    obtain ⟨q, rfl, hq, _⟩ := h.ls z List.mem_cons_self
    have h2 := h.ins
    obtain ⟨ih, hr⟩ := fold_in r (inS p b S q) h2
    refine ⟨?_, hr⟩
    have hlen := len_inS S q p b
    have hk := fun t ht => kids_inS (b := b) (p := p) h.right hq (t := t) ht
    refine ⟨ih.len.trans hlen, ?_, fun t ht hne => ?_, fun t ht => ?_⟩
    · refine ih.kp.trans ?_
      rw [(hk p h.lt).1, if_pos rfl]
      rfl
    · refine (ih.ko t (by rw [hlen]; exact ht) hne).trans ?_
      rw [(hk t ht).1, if_neg hne, not_cons]
    · refine (ih.par t (by rw [hlen]; exact ht)).trans ?_
      rw [(hk t ht).2, List.contains_cons]
      by_cases e : t = q
      · subst e; simp
      · have e2 : ((t : Int) == (q : Int)) = false := beq_eq_false_iff_ne.2 (by omega)
        rw [if_neg e, e2, Bool.false_or]
structure OutTo (F G : List Core) (l : List Int) : Prop where
  len : G.length = F.length
  kids : ∀ t : Nat, t < F.length → kidsK G t = (kidsK F t).filter (fun z => !l.contains z)
  par : ∀ t : Nat, t < F.length → parentK G t = if l.contains (t : Int) then -1 else parentK F t
theorem fold_out {p : Nat} {b : Int} {l : List Int} : ∀ (r : List Int) (S : St), (∀ z ∈ r, z ∈ l) → PutInv m S.1 p l b → OutTo S.1 ((r.map Int.toNat).foldl outS S).1 r ∧ PutInv m ((r.map Int.toNat).foldl outS S).1 p l b
  | [], S, _, h => ⟨⟨rfl, fun t _ => (not_nil _).symm, fun t _ => by simp⟩, h⟩
  | z :: r, S, hz, h => by
    have hm := hz z List.mem_cons_self
    obtain ⟨q, rfl, hq, _⟩ := h.ls z hm
    obtain ⟨ih, hr⟩ := fold_out r (outS S q) (fun y hy => hz y (List.mem_cons_of_mem _ hy)) (h.outs hm)
    have hlen := len_out S q
    refine ⟨⟨ih.len.trans hlen, fun t ht => ?_, fun t ht => ?_⟩, hr⟩
    · refine (ih.kids t (by rw [hlen]; exact ht)).trans ?_
      rw [kids_out h.right hq ht, not_cons]
    · refine (ih.par t (by rw [hlen]; exact ht)).trans ?_
      rw [par_out ht, List.contains_cons]
      by_cases e : t = q
      · subst e; simp
      · have e2 : ((t : Int) == (q : Int)) = false := beq_eq_false_iff_ne.2 (by omega)
        rw [if_neg e, e2, Bool.false_or]
end
end Go.Proofs.YtclledmgiliggaaGreatDoor
namespace Go.Proofs.YtclledmgiliggaaGreatDoor
open Go.RowKit
set_option linter.unusedVariables false
def runN {σ : Type} (f : σ → NoteD → Option σ) : σ → List NoteD → Option σ
  | s, [] => some s
  | s, x :: N => match f s x with | some t => runN f t N | none => none
section
variable {σ : Type} {f : σ → NoteD → Option σ}
theorem runN_append : ∀ {A : List NoteD} (B : List NoteD) {s t : σ}, runN f s A = some t → runN f s (A ++ B) = runN f t B
  | [], B, s, t, h => by rw [Option.some.inj h]; rfl
  | x :: A, B, s, t, h => by
    show (match f s x with | some t => runN f t (A ++ B) | none => none) = _
    have h : (match f s x with | some t => runN f t A | none => none) = some t := h
    cases e : f s x with
    | none => rw [e] at h; cases h
    | some u =>
      rw [e] at h
      exact runN_append B h
theorem runN_one {s : σ} {x : NoteD} : runN f s [x] = f s x := by
  show (match f s x with | some t => runN f t [] | none => none) = _
  cases f s x <;> rfl
theorem runN_next {N : List NoteD} {s e t : σ} {k : Nat} {x : NoteD} (h : runN f s N = some e) (hk : N[k]? = some x) (ht : runN f s (N.take k) = some t) : ∃ t', f t x = some t' ∧ runN f s (N.take (k + 1)) = some t' := by
  obtain ⟨hl, hx⟩ := List.getElem?_eq_some_iff.1 hk
  have e1 : N = N.take k ++ x :: N.drop (k + 1) := by
    rw [← hx, ← List.drop_eq_getElem_cons hl, List.take_append_drop]
  have h2 := runN_append (x :: N.drop (k + 1)) ht
  rw [← e1, h] at h2
  have h2 : some e = (match f t x with | some t => runN f t (N.drop (k + 1)) | none => none) := h2
  cases h3 : f t x with
  | none => rw [h3] at h2; cases h2
  | some t' =>
    refine ⟨t', rfl, ?_⟩
    rw [List.take_add_one, hk]
    show runN f s (N.take k ++ [x]) = _
    rw [runN_append [x] ht]
    show (match f t x with | some t => runN f t [] | none => none) = _
    rw [h3]
    rfl
theorem runN_skip : ∀ {N : List NoteD} {s : σ}, (∀ y ∈ N, ∀ u, f u y = some u) → runN f s N = some s
  | [], s, _ => rfl
  | x :: N, s, h => by
    show (match f s x with | some t => runN f t N | none => none) = _
    rw [h x List.mem_cons_self s]
    exact runN_skip (fun y hy => h y (List.mem_cons_of_mem _ hy))
theorem run_map {x : NoteD} {j : Int} {s t : σ} (hoff : ∀ z u, z ≠ j → f u (noteAt x z) = some u) (hon : f s (noteAt x j) = some t) : ∀ {l : List Int}, l.Nodup → runN f s (l.map (noteAt x)) = some (if j ∈ l then t else s)
  | [], _ => by rw [if_neg (by simp)]; rfl
  | z :: r, hn => by
    obtain ⟨h1, h2⟩ := List.nodup_cons.1 hn
    show (match f s (noteAt x z) with | some t => runN f t (r.map (noteAt x)) | none => none) = _
    by_cases e : z = j
    · subst e
      rw [hon, if_pos List.mem_cons_self]
      refine runN_skip (fun y hy u => ?_)
      obtain ⟨z', hz', rfl⟩ := List.mem_map.1 hy
      exact hoff z' u (fun e => h1 (by rw [← e]; exact hz'))
    · rw [hoff z s e]
      show runN f s (r.map (noteAt x)) = _
      rw [run_map hoff hon h2]
      by_cases hj : j ∈ r
      · rw [if_pos hj, if_pos (List.mem_cons_of_mem _ hj)]
      · rw [if_neg hj, if_neg (fun h => by rcases List.mem_cons.1 h with h | h; exact e h.symm; exact hj h)]
end
def stepB (j : Int) (s : Bool × Int) (x : NoteD) : Option (Bool × Int) :=
  if x.node = j then
    (if x.kind = 1 then (if s.1 = true then none else some (true, s.2))
     else if x.kind = 2 then (if s.1 = true then some (false, s.2) else none)
     else if x.kind = 3 then (if x.src = s.2 ∧ x.dst ≠ s.2 ∧ s.1 = false then some (s.1, x.dst) else none)
     else some s)
  else some s
theorem stepB_came {j : Int} {s : Bool × Int} {x : NoteD} (hn : x.node = j) (hk : x.kind = 1) (h : s.1 = false) : stepB j s x = some (true, s.2) := by
  unfold stepB
  rw [if_pos hn, if_pos hk, if_neg (by rw [h]; decide)]
theorem stepB_went {j : Int} {s : Bool × Int} {x : NoteD} (hn : x.node = j) (hk : x.kind = 2) (h : s.1 = true) : stepB j s x = some (false, s.2) := by
  unfold stepB
  rw [if_pos hn, if_neg (by omega), if_pos hk, if_pos h]
theorem stepB_moved {j : Int} {s : Bool × Int} {x : NoteD} (hn : x.node = j) (hk : x.kind = 3) (h1 : x.src = s.2) (h2 : x.dst ≠ s.2) (h3 : s.1 = false) : stepB j s x = some (s.1, x.dst) := by
  unfold stepB
  rw [if_pos hn, if_neg (by omega), if_neg (by omega), if_pos hk, if_pos ⟨h1, h2, h3⟩]
theorem stepB_other {j : Int} {s : Bool × Int} {x : NoteD} (hk : x.kind = 4) : stepB j s x = some s := by
  unfold stepB
  by_cases hn : x.node = j
  · rw [if_pos hn, if_neg (by omega), if_neg (by omega), if_neg (by omega)]
  · rw [if_neg hn]
def stepC (j : Int) (k : List UInt8) (s : Option ByteArray) (x : NoteD) : Option (Option ByteArray) :=
  if x.node = j ∧ x.kind = 4 ∧ x.name = ofL k then
    (if x.old = s.getD (ofL []) ∧ x.had = s.isSome ∧ (x.had = true ∨ x.has = true) ∧ (x.has = true ∨ x.new = ofL []) then some (if x.has = true then some x.new else none) else none)
  else some s
structure Told (F : List Core) (N : List NoteD) (G : List Core) : Prop where
  len : G.length = F.length
  kind : ∀ z, kindK G z = kindK F z
  run : ∀ j : Nat, j < F.length → kindK F j = 1 → runN (stepB j) (connF F j, docK F j) N = some (connF G j, docK G j)
  els : ∀ x ∈ N, ∃ j : Nat, x.node = j ∧ j < F.length ∧ kindK F j = 1
  att : ∀ (j : Nat) (k : List UInt8), j < F.length → runN (stepC j k) (lookA (attrsK F j) k) N = some (lookA (attrsK G j) k)
theorem Told.refl (F : List Core) : Told F [] F := ⟨rfl, fun _ => rfl, fun _ _ _ => rfl, fun x hx => (by cases hx), fun _ _ _ => rfl⟩
theorem Told.trans {F G H : List Core} {A B : List NoteD} (h : Told F A G) (k : Told G B H) : Told F (A ++ B) H :=
  ⟨k.len.trans h.len, fun z => (k.kind z).trans (h.kind z), fun j hj e => (runN_append B (h.run j hj e)).trans (k.run j (by rw [h.len]; exact hj) (by rw [h.kind]; exact e)),
    fun x hx => by
      rcases List.mem_append.1 hx with hx | hx
      · exact h.els x hx
      · obtain ⟨j, h1, h2, h3⟩ := k.els x hx
        exact ⟨j, h1, by rw [← h.len]; exact h2, by rw [← h.kind]; exact h3⟩,
    fun j n hj => (runN_append B (h.att j n hj)).trans (k.att j n (by rw [h.len]; exact hj))⟩
theorem told_of {F G H : List Core} {n : Nat} {x : NoteD} {told : Bool} (hlen : G.length = F.length) (hkind : ∀ z, kindK G z = kindK F z) (hattr : ∀ j : Nat, j < F.length → attrsK G j = attrsK F j)
    (hnd : (allI H n).Nodup) (hin : ∀ z ∈ allI H n, ∃ j : Nat, z = j ∧ j < F.length) (hkH : ∀ z, kindK H z = kindK F z) (hx4 : x.kind ≠ 4)
    (hrun : ∀ j : Nat, j < F.length → kindK F j = 1 → if told = true ∧ (j : Int) ∈ allI H n then stepB j (connF F j, docK F j) (noteAt x j) = some (connF G j, docK G j) else (connF G j, docK G j) = (connF F j, docK F j)) :
    Told F (if told = true then tellN H n x else []) G := by
  refine ⟨hlen, hkind, fun j hj e => ?_, fun y hy => ?_, fun j k hj => ?_⟩
  · have h1 := hrun j hj e
    by_cases ht : told = true
    · rw [if_pos ht]
      unfold tellN
      have hmem : (j : Int) ∈ (allI H n).filter (fun z => kindK H z == 1) ↔ (j : Int) ∈ allI H n := by
        rw [List.mem_filter]
        exact ⟨fun h => h.1, fun h => ⟨h, by rw [hkH, e]; rfl⟩⟩
      have hoff : ∀ (z : Int) u, z ≠ (j : Int) → stepB j u (noteAt x z) = some u := fun z u hz => if_neg hz
      by_cases hm : (j : Int) ∈ allI H n
      · rw [if_pos ⟨ht, hm⟩] at h1
        rw [run_map hoff h1 (hnd.filter _), if_pos (hmem.2 hm)]
      · rw [if_neg (fun h => hm h.2)] at h1
        rw [h1]
        refine runN_skip (fun y hy u => ?_)
        obtain ⟨z, hz, rfl⟩ := List.mem_map.1 hy
        exact hoff z u (fun e2 => hm (hmem.1 (by rw [← e2]; exact hz)))
    · rw [if_neg ht]
      rw [if_neg (fun h => ht h.1)] at h1
      rw [h1]
      rfl
  · by_cases ht : told = true
    · rw [if_pos ht] at hy
      unfold tellN at hy
      obtain ⟨z, hz, rfl⟩ := List.mem_map.1 hy
      obtain ⟨h1, h2⟩ := List.mem_filter.1 hz
      obtain ⟨j, rfl, hj⟩ := hin z h1
      rw [hkH] at h2
      exact ⟨j, rfl, hj, beq_iff_eq.1 h2⟩
    · rw [if_neg ht] at hy
      cases hy
  · rw [hattr j hj]
    refine runN_skip (fun y hy u => ?_)
    by_cases ht : told = true
    · rw [if_pos ht] at hy
      unfold tellN at hy
      obtain ⟨z, hz, rfl⟩ := List.mem_map.1 hy
      exact if_neg (fun h => hx4 h.2.1)
    · rw [if_neg ht] at hy
      cases hy
section
variable {m : Int} {F G : List Core}
theorem doc_none (h : rightF m F = true) {d : Nat} (hd : d < F.length) (hk : kindK F d = 0) : parS F d = none := by
  have hc : F[d]? = some F[d] := List.getElem?_eq_getElem hd
  have N := right_node h hc
  rw [kindK_at hc] at hk
  refine parS_none ?_
  rw [nextUp_at hc]
  have hp : F[d].parent = -1 := by
    rcases N.par with e | ⟨e, _⟩
    · exact e
    · omega
  show (if F[d].parent = -1 then F[d].host else F[d].parent) = -1
  rw [if_pos hp]
  exact N.free (by omega)
theorem conn_iff (h : rightF m F = true) {j : Nat} (hj : j < F.length) : connF F j = true ↔ ∃ d : Nat, d < F.length ∧ kindK F d = 0 ∧ holdsT (parS F) d j := by
  have T := treeS h
  constructor
  · intro hc
    exact ⟨topF F j, topF_lt h hj, beq_iff_eq.1 hc, rootN_holds _ _⟩
  · rintro ⟨d, hd, hk, hh⟩
    have h1 := doc_none h hd hk
    have h2 : topF F d = topF F j := T.root_held hj (Nat.le_refl _) hh
    have h3 : topF F d = d := rootN_none h1
    unfold connF
    rw [← h2, h3, hk]
    rfl
theorem conn_over (h : rightF m F = true) {n j : Nat} (hj : j < F.length) (hh : holdsT (parS F) n j) : connF F j = connF F n := by
  have h2 : topF F n = topF F j := (treeS h).root_held hj (Nat.le_refl _) hh
  unfold connF
  rw [h2]
theorem conn_same (h : rightF m F = true) (hG : rightF m G = true) (hl : G.length = F.length) (hk : ∀ z, kindK G z = kindK F z) {j : Nat} (hj : j < F.length) (hd : ∀ d : Nat, d < F.length → (holdsT (parS G) d j ↔ holdsT (parS F) d j)) : connF G j = connF F j := by
  rw [Bool.eq_iff_iff, conn_iff h hj, conn_iff hG (by rw [hl]; exact hj)]
  constructor
  · rintro ⟨d, h1, h2, h3⟩
    exact ⟨d, by rw [← hl]; exact h1, by rw [← hk]; exact h2, (hd d (by rw [← hl]; exact h1)).1 h3⟩
  · rintro ⟨d, h1, h2, h3⟩
    exact ⟨d, by rw [hl]; exact h1, by rw [hk]; exact h2, (hd d h1).2 h3⟩
theorem attrs_edit {P : Nat → Core → Int} {K : Nat → Core → List Int} {D : Nat → Core → Int} (h : Edit F G P K D) {j : Nat} (hj : j < F.length) : attrsK G j = attrsK F j := by
  have hc : F[j]? = some F[j] := List.getElem?_eq_getElem hj
  rw [attrsK_at (h.at_ j _ hc), attrsK_at hc]
  rfl
theorem told_out (h : rightF m F = true) {n : Nat} (hn : n < F.length) (hp : parentK F n ≠ -1) : Told F (if connF F n = true then tellN F n (note 2) else []) (mvOut F n) := by
  have hx : F[n]? = some F[n] := List.getElem?_eq_getElem hn
  rw [parentK_at hx] at hp
  obtain ⟨p, hpp, hpl, ho⟩ := mvOut_out h hx hp
  have hG := ho.rightG
  refine told_of ho.ed.len (fun z => ho.ed.kindK z) (fun j hj => attrs_edit ho.ed hj) (allI_nodup h hn) (fun z hz => allI_num h hn hz) (fun _ => rfl) (by decide) (fun j hj e => ?_)
  have hdoc : docK (mvOut F n) j = docK F j := by
    have hc : F[j]? = some F[j] := List.getElem?_eq_getElem hj
    rw [docK_at (ho.ed.at_ j _ hc), docK_at hc]
    rfl
  have hnk : F[n].kind = 1 ∨ F[n].kind = 2 := ho.kind
  by_cases hm : (j : Int) ∈ allI F n
  · have hh := (mem_all h hn hj).1 hm
    have hcj := conn_over h hj hh
    have hg : connF (mvOut F n) j = false := by
      cases hc : connF (mvOut F n) j with
      | false => rfl
      | true =>
        obtain ⟨d, h1, h2, h3⟩ := (conn_iff hG (by rw [ho.ed.len]; exact hj)).1 hc
        rw [ho.ed.len] at h1
        rw [ho.ed.kindK] at h2
        have h4 := ((ho.over h1 hj).1 h3).2 hh
        rcases holds_up h4 with e2 | ⟨q, e2, _⟩
        · rw [← e2, kindK_at hx] at h2
          omega
        · rw [doc_none h h1 h2] at e2
          cases e2
    by_cases ht : connF F n = true
    · rw [if_pos ⟨ht, hm⟩, hcj, ht, hg, hdoc]
      exact stepB_went rfl rfl rfl
    · rw [if_neg (fun h => ht h.1), hg, hcj, hdoc]
      rw [Bool.not_eq_true] at ht
      rw [ht]
  · have hh : ¬ holdsT (parS F) n j := fun hh => hm ((mem_all h hn hj).2 hh)
    rw [if_neg (fun h => hm h.2), hdoc, conn_same h hG ho.ed.len (fun z => ho.ed.kindK z) hj (fun d hd => by
      rw [ho.over hd hj]
      exact ⟨fun h => h.1, fun h => ⟨h, fun h2 => absurd h2 hh⟩⟩)]
theorem doc_next {n : Nat} {d : Int} (j : Nat) : nextUp (mvDoc F n d) (j : Int) = nextUp F j := by
  have hed : Edit F (mvDoc F n d) (fun _ c => c.parent) (fun _ c => c.kids) (fun j c => if (j : Int) ∈ allI F n then d else c.doc) := edF_edit _ _ _ _
  by_cases hj : j < F.length
  · have hc : F[j]? = some F[j] := List.getElem?_eq_getElem hj
    rw [hed.next hc, nextUp_at hc]
    rfl
  · unfold nextUp
    rw [getC_nat, getC_nat, List.getElem?_eq_none (by rw [hed.len]; omega), List.getElem?_eq_none (by omega)]
theorem topP_none (h : rightF m F = true) {n : Nat} (hn : n < F.length) (hp : parentK F n = -1) (hk : kindK F n = 1 ∨ kindK F n = 2) : parS F n = none := by
  have hx : F[n]? = some F[n] := List.getElem?_eq_getElem hn
  rw [parentK_at hx] at hp
  rw [kindK_at hx] at hk
  refine parS_none ?_
  rw [nextUp_at hx]
  show (if F[n].parent = -1 then F[n].host else F[n].parent) = -1
  rw [if_pos hp]
  exact (right_node h hx).free (by omega)
theorem top_off (h : rightF m F = true) {n : Nat} (hn : n < F.length) (hp : parentK F n = -1) (hk : kindK F n = 1 ∨ kindK F n = 2) : connF F n = false := by
  have h3 : topF F n = n := rootN_none (topP_none h hn hp hk)
  unfold connF
  rw [h3]
  exact beq_eq_false_iff_ne.2 (by omega)
theorem told_doc (h : rightF m F = true) {n : Nat} (hn : n < F.length) (hp : parentK F n = -1) (hk : kindK F n = 1 ∨ kindK F n = 2) {d : Int} (hd : docK F n ≠ d) :
    Told F (tellN F n ⟨3, 0, docK F n, d, ⟨#[]⟩, false, false, ⟨#[]⟩, ⟨#[]⟩⟩) (mvDoc F n d) := by
  have hed : Edit F (mvDoc F n d) (fun _ c => c.parent) (fun _ c => c.kids) (fun j c => if (j : Int) ∈ allI F n then d else c.doc) := edF_edit _ _ _ _
  have hpS : parS (mvDoc F n d) = parS F := parS_same doc_next
  have hct : ∀ j, connF (mvDoc F n d) j = connF F j := fun j => by
    unfold connF topF
    rw [hpS, hed.len, hed.kindK]
  have h1 := told_of (F := F) (G := mvDoc F n d) (H := F) (n := n) (x := ⟨3, 0, docK F n, d, ⟨#[]⟩, false, false, ⟨#[]⟩, ⟨#[]⟩⟩) (told := true) hed.len (fun z => hed.kindK z) (fun j hj => attrs_edit hed hj) (allI_nodup h hn) (fun z hz => allI_num h hn hz) (fun _ => rfl) (by show ¬ (3 : Int) = 4; decide) (fun j hj e => by
    have hc : F[j]? = some F[j] := List.getElem?_eq_getElem hj
    have hdoc : docK (mvDoc F n d) j = if (j : Int) ∈ allI F n then d else F[j].doc := docK_at (hed.at_ j _ hc)
    rw [hct]
    by_cases hm : (j : Int) ∈ allI F n
    · rw [if_pos ⟨rfl, hm⟩, hdoc, if_pos hm, doc_all h hn hm hj, conn_over h hj ((mem_all h hn hj).1 hm), top_off h hn hp hk]
      exact stepB_moved rfl rfl rfl (fun e2 => hd e2.symm) rfl
    · rw [if_neg (fun h => hm h.2), hdoc, if_neg hm, docK_at hc])
  rwa [if_pos rfl] at h1
theorem in_next {q p : Nat} {b : Int} {j : Nat} (hj : j < F.length) : nextUp (mvIn F q p b) (j : Int) = if j = q then (p : Int) else nextUp F j := by
  have hed : Edit F (mvIn F q p b) (fun j c => if j = q then (p : Int) else c.parent) (fun j c => if j = p then insB c.kids b q else c.kids) (fun _ c => c.doc) := edF_edit _ _ _ _
  have hc : F[j]? = some F[j] := List.getElem?_eq_getElem hj
  rw [hed.next hc]
  by_cases e : j = q
  · rw [if_pos e, if_pos e, if_neg (by omega)]
  · rw [if_neg e, if_neg e, nextUp_at hc]
    rfl
theorem told_in (h : rightF m F = true) {q p : Nat} {b : Int} (hG : rightF m (mvIn F q p b) = true) (hq : q < F.length) (hpl : p < F.length) (hp : parentK F q = -1) (hk : kindK F q = 1 ∨ kindK F q = 2) :
    Told F (if connF (mvIn F q p b) q = true then tellN (mvIn F q p b) q (note 1) else []) (mvIn F q p b) := by
  have hed : Edit F (mvIn F q p b) (fun j c => if j = q then (p : Int) else c.parent) (fun j c => if j = p then insB c.kids b q else c.kids) (fun _ c => c.doc) := edF_edit _ _ _ _
  have hpS : ∀ j, j < F.length → j ≠ q → parS (mvIn F q p b) j = parS F j := fun j hj e => by
    unfold parS
    rw [in_next hj, if_neg e]
  have hn0 := topP_none h hq hp hk
  have hA : ∀ (k c : Nat), c < F.length → ¬ holdsT (parS F) q c → upN (parS (mvIn F q p b)) k c = upN (parS F) k c := by
    intro k
    induction k with
    | zero => exact fun _ _ _ => rfl
    | succ k ih =>
      intro c hc hn
      have hcq : c ≠ q := fun e => hn (by rw [e]; exact holds_refl q)
      unfold upN
      rw [hpS c hc hcq]
      cases hq2 : parS F c with
      | none => rfl
      | some t => exact ih t (parS_next h hc hq2).2 (fun hh => hn (holds_trans hh (holds_par hq2)))
  have hB : ∀ (k c : Nat), c < F.length → upN (parS F) k c = some q → holdsT (parS (mvIn F q p b)) q c := by
    intro k
    induction k with
    | zero =>
      intro c _ hu
      rw [Option.some.inj hu]
      exact holds_refl q
    | succ k ih =>
      intro c hc hu
      by_cases hcq : c = q
      · rw [hcq]; exact holds_refl q
      · unfold upN at hu
        cases hq2 : parS F c with
        | none => rw [hq2] at hu; cases hu
        | some t =>
          rw [hq2] at hu
          exact holds_trans (ih t (parS_next h hc hq2).2 hu) (holds_par (by rw [hpS c hc hcq]; exact hq2))
  have hqG : q < (mvIn F q p b).length := by rw [hed.len]; exact hq
  have hmem : ∀ j, j < F.length → ((j : Int) ∈ allI (mvIn F q p b) q ↔ holdsT (parS F) q j) := fun j hj => by
    rw [mem_all hG hqG (by rw [hed.len]; exact hj)]
    constructor
    · rintro ⟨k, hu⟩
      by_cases hh : holdsT (parS F) q j
      · exact hh
      · exact ⟨k, by rw [← hA k j hj hh]; exact hu⟩
    · rintro ⟨k, hu⟩
      exact hB k j hj hu
  refine told_of hed.len (fun z => hed.kindK z) (fun j hj => attrs_edit hed hj) (allI_nodup hG hqG) (fun z hz => by
    obtain ⟨j, h1, h2⟩ := allI_num hG hqG hz
    exact ⟨j, h1, by rw [← hed.len]; exact h2⟩) (fun z => hed.kindK z) (by decide) (fun j hj e => ?_)
  have hdoc : docK (mvIn F q p b) j = docK F j := by
    have hc : F[j]? = some F[j] := List.getElem?_eq_getElem hj
    rw [docK_at (hed.at_ j _ hc), docK_at hc]
    rfl
  by_cases hm : (j : Int) ∈ allI (mvIn F q p b) q
  · have hh := (hmem j hj).1 hm
    have hcF : connF F j = false := (conn_over h hj hh).trans (top_off h hq hp hk)
    have hcG : connF (mvIn F q p b) j = connF (mvIn F q p b) q := conn_over hG (by rw [hed.len]; exact hj) ((mem_all hG hqG (by rw [hed.len]; exact hj)).1 hm)
    by_cases ht : connF (mvIn F q p b) q = true
    · rw [if_pos ⟨ht, hm⟩, hcF, hcG, ht, hdoc]
      exact stepB_came rfl rfl rfl
    · rw [if_neg (fun h => ht h.1), hcF, hcG, hdoc]
      rw [Bool.not_eq_true] at ht
      rw [ht]
  · have hh : ¬ holdsT (parS F) q j := fun hh => hm ((hmem j hj).2 hh)
    rw [if_neg (fun h => hm h.2), hdoc, conn_same h hG hed.len (fun z => hed.kindK z) hj (fun d hd => by
      constructor
      · rintro ⟨k, hu⟩; exact ⟨k, by rw [← hA k j hj hh]; exact hu⟩
      · rintro ⟨k, hu⟩; exact ⟨k, by rw [hA k j hj hh]; exact hu⟩)]
end
end Go.Proofs.YtclledmgiliggaaGreatDoor
namespace Go.Proofs.YtclledmgiliggaaGreatDoor
open Go.RowKit
set_option linter.unusedVariables false
section
variable {m : Int} {F G : List Core}
structure Turned (s : List UInt8) (old new : AL) : Prop where
  right : rightA old = true
  rightN : rightL s = true
  rightG : rightA new = true
  one : hasA old s = true ∨ hasA new s = true
  other : ∀ k, k ≠ smallL s → lookA new k = lookA old k
theorem turned_set {s : List UInt8} {v : ByteArray} {l : AL} (h : setE l s v = 0) : Turned s l (setA l s v) :=
  ⟨(set_parts h).1, (set_parts h).2.1, setA_right h, .inr (back_has h).1, fun _ hk => look_A_other h hk⟩
theorem turned_rem {s : List UInt8} {l : AL} (h : hasA l s = true) : Turned s l (remA l s) := by
  obtain ⟨h1, h2, _⟩ := hasA_right h
  rw [remA_yes h]
  exact ⟨h1, h2, filter_right _ h1, .inl h, fun _ hk => look_filter hk⟩
theorem Turned.has {s : List UInt8} {old new : AL} (h : Turned s old new) : hasA old s = (lookA old (smallL s)).isSome ∧ hasA new s = (lookA new (smallL s)).isSome := by
  rw [has_iff, has_iff, h.right, h.rightN, h.rightG]
  exact ⟨rfl, rfl⟩
theorem val_look {l : AL} {s : List UInt8} (h : hasA l s = (lookA l (smallL s)).isSome) : valA l s = (lookA l (smallL s)).getD (ofL []) := by
  rw [val_iff, h]
  cases lookA l (smallL s) <;> rfl
theorem attrsK_chg {n j : Nat} {l : AL} (hn : n < F.length) (hj : j < F.length) : attrsK (chgF F n l) j = if j = n then l else attrsK F j := by
  have hc : F[j]? = some F[j] := List.getElem?_eq_getElem hj
  rw [attrsK_at (chg_at hc), attrsK_at hc]
  by_cases e : j = n
  · rw [if_pos e, if_pos e]; rfl
  · rw [if_neg e, if_neg e]
theorem told_chg {n : Nat} (hn : n < F.length) (hk : kindK F n = 1) {s : List UInt8} {new : AL} (ht : Turned s (attrsK F n) new) : Told F [chgN n s (attrsK F n) new] (chgF F n new) := by
  have hlen : (chgF F n new).length = F.length := chg_len
  have hnx : ∀ j : Nat, nextUp (chgF F n new) (j : Int) = nextUp F j := fun j => by
    by_cases hj : j < F.length
    · exact chg_next (List.getElem?_eq_getElem hj)
    · unfold nextUp
      rw [getC_nat, getC_nat, List.getElem?_eq_none (by rw [hlen]; omega), List.getElem?_eq_none (by omega)]
  have hct : ∀ j, connF (chgF F n new) j = connF F j := fun j => by
    unfold connF topF
    rw [parS_same hnx, hlen, chg_kindK]
  have hdk : ∀ j : Nat, j < F.length → docK (chgF F n new) j = docK F j := fun j hj => by
    have hc : F[j]? = some F[j] := List.getElem?_eq_getElem hj
    rw [docK_at (chg_at hc), docK_at hc]
    split <;> rfl
  obtain ⟨h1, h2⟩ := ht.has
  refine ⟨hlen, fun z => chg_kindK z, fun j hj e => ?_, fun x hx => ?_, fun j k hj => ?_⟩
  · rw [hct, hdk j hj]
    refine runN_skip (fun y hy u => ?_)
    rw [List.mem_singleton] at hy
    subst hy
    exact stepB_other rfl
  · rw [List.mem_singleton] at hx
    subst hx
    exact ⟨n, rfl, hn, hk⟩
  · rw [attrsK_chg hn hj]
    rw [runN_one]
    by_cases e : j = n
    · subst e
      rw [if_pos rfl]
      by_cases e2 : k = smallL s
      · subst e2
        have hcond : (chgN j s (attrsK F j) new).old = (lookA (attrsK F j) (smallL s)).getD (ofL []) ∧ (chgN j s (attrsK F j) new).had = (lookA (attrsK F j) (smallL s)).isSome ∧ ((chgN j s (attrsK F j) new).had = true ∨ (chgN j s (attrsK F j) new).has = true) ∧ ((chgN j s (attrsK F j) new).has = true ∨ (chgN j s (attrsK F j) new).new = ofL []) := by
          refine ⟨val_look h1, h1, ht.one, ?_⟩
          by_cases e3 : hasA new s = true
          · exact .inl e3
          · right
            show valA new s = ofL []
            rw [val_iff, if_neg e3]
        unfold stepC
        rw [if_pos ⟨rfl, rfl, rfl⟩, if_pos hcond]
        show some (if hasA new s = true then some (valA new s) else none) = some (lookA new (smallL s))
        congr 1
        rw [val_look h2, h2]
        cases lookA new (smallL s) <;> rfl
      · unfold stepC
        rw [if_neg (fun h => e2 (by
          have h3 : ofL (smallL s) = ofL k := h.2.2
          have h4 := congrArg ByteArray.toList h3
          rw [toList_ofL, toList_ofL] at h4
          exact h4.symm))]
        show some (lookA (attrsK F j) k) = _
        rw [ht.other k e2]
    · rw [if_neg e]
      unfold stepC
      rw [if_neg (fun h => e (by have h3 : (n : Int) = (j : Int) := h.1; omega))]
end
section
variable {m : Int}
theorem told_outS {S : St} (h : rightF m S.1 = true) {n : Nat} (hn : n < S.1.length) : ∃ X, (outS S n).2 = S.2 ++ X ∧ Told S.1 X (outS S n).1 ∧ X.length ≤ 400 := by
  unfold outS
  by_cases hp : parentK S.1 n = -1
  · rw [if_pos hp]
    exact ⟨[], by rw [List.append_nil], Told.refl _, Nat.zero_le _⟩
  · rw [if_neg hp]
    refine ⟨_, ?_, told_out h hn hp, ?_⟩
    · dsimp only
      split
      · rfl
      · rw [List.append_nil]
    · split
      · exact tellN_len h hn _
      · exact Nat.zero_le _
theorem told_overS {S : St} (h : rightF m S.1 = true) {n : Nat} (hn : n < S.1.length) (hk : kindK S.1 n = 1 ∨ kindK S.1 n = 2) (d : Int) : ∃ X, (overS S n d).2 = S.2 ++ X ∧ Told S.1 X (overS S n d).1 ∧ X.length ≤ 800 := by
  obtain ⟨X, h1, h2, h3⟩ := told_outS h hn
  obtain ⟨hr, _, hp⟩ := outS_facts h hn
  unfold overS
  dsimp only
  by_cases hd : docK (outS S n).1 n = d
  · rw [if_pos hd]
    exact ⟨X, h1, h2, by omega⟩
  · rw [if_neg hd]
    have hn1 : n < (outS S n).1.length := by rw [len_out]; exact hn
    refine ⟨X ++ tellN (outS S n).1 n ⟨3, 0, docK (outS S n).1 n, d, ⟨#[]⟩, false, false, ⟨#[]⟩, ⟨#[]⟩⟩, by dsimp only; rw [h1, List.append_assoc], h2.trans (told_doc hr hn1 hp (by rw [h2.kind]; exact hk) hd), ?_⟩
    rw [List.length_append]
    have := tellN_len hr hn1 ⟨3, 0, docK (outS S n).1 n, d, ⟨#[]⟩, false, false, ⟨#[]⟩, ⟨#[]⟩⟩
    omega
theorem told_inS {S : St} {q p : Nat} {r : List Int} {b : Int} (h : PutInv m S.1 p ((q : Int) :: r) b) : ∃ X, (inS p b S q).2 = S.2 ++ X ∧ Told S.1 X (inS p b S q).1 ∧ X.length ≤ 1200 := by
  obtain ⟨q', e, hq, hk⟩ := h.ls _ List.mem_cons_self
  obtain rfl : q = q' := by omega
  obtain ⟨X, h1, h2, h3⟩ := told_overS h.right hq hk (docK S.1 p)
  have hO := h.overs List.mem_cons_self (doc_is h.right h.lt)
  have hG := h.ins.right
  have hq1 : q < (overS S q (docK S.1 p)).1.length := by rw [len_over]; exact hq
  have ht := told_in (b := b) hO.inv.right hG hq1 (by rw [len_over]; exact h.lt) hO.par (by rw [h2.kind]; exact hk)
  unfold inS at hG ⊢
  dsimp only at hG ⊢
  refine ⟨X ++ (if connF (mvIn (overS S q (docK S.1 p)).1 q p b) q = true then tellN (mvIn (overS S q (docK S.1 p)).1 q p b) q (note 1) else []), ?_, h2.trans ht, ?_⟩
  · split
    · rw [h1, List.append_assoc]
    · rw [h1, List.append_nil]
  · rw [List.length_append]
    split
    · have := tellN_len hG (n := q) (by show q < (mvIn (overS S q (docK S.1 p)).1 q p b).length; rw [show (mvIn (overS S q (docK S.1 p)).1 q p b).length = (overS S q (docK S.1 p)).1.length from (edF_edit _ _ _ _).len]; exact hq1) (note 1)
      omega
    · simp only [List.length_nil]; omega
theorem told_ins {p : Nat} {b : Int} : ∀ (l : List Int) (S : St), PutInv m S.1 p l b → ∃ X, ((l.map Int.toNat).foldl (inS p b) S).2 = S.2 ++ X ∧ Told S.1 X ((l.map Int.toNat).foldl (inS p b) S).1 ∧ X.length ≤ 1200 * l.length
  | [], S, _ => ⟨[], by rw [List.append_nil]; rfl, Told.refl _, Nat.zero_le _⟩
  | z :: r, S, h => by
    obtain ⟨q, rfl, hq, _⟩ := h.ls z List.mem_cons_self
    obtain ⟨X, h1, h2, h3⟩ := told_inS h
    obtain ⟨Y, h4, h5, h6⟩ := told_ins r (inS p b S q) h.ins
    refine ⟨X ++ Y, ?_, h2.trans h5, ?_⟩
    · refine h4.trans ?_
      rw [h1, List.append_assoc]
    · rw [List.length_append, List.length_cons]
      omega
theorem told_outs {p : Nat} {b : Int} {l : List Int} : ∀ (r : List Int) (S : St), (∀ z ∈ r, z ∈ l) → PutInv m S.1 p l b → ∃ X, ((r.map Int.toNat).foldl outS S).2 = S.2 ++ X ∧ Told S.1 X ((r.map Int.toNat).foldl outS S).1 ∧ X.length ≤ 400 * r.length
  | [], S, _, _ => ⟨[], by rw [List.append_nil]; rfl, Told.refl _, Nat.zero_le _⟩
  | z :: r, S, hz, h => by
    have hm := hz z List.mem_cons_self
    obtain ⟨q, rfl, hq, _⟩ := h.ls z hm
    obtain ⟨X, h1, h2, h3⟩ := told_outS h.right hq
    obtain ⟨Y, h4, h5, h6⟩ := told_outs r (outS S q) (fun y hy => hz y (List.mem_cons_of_mem _ hy)) (h.outs hm)
    refine ⟨X ++ Y, ?_, h2.trans h5, ?_⟩
    · refine h4.trans ?_
      rw [h1, List.append_assoc]
    · rw [List.length_append, List.length_cons]
      omega
theorem parts_len {F : List Core} (h : rightF m F = true) {n : Nat} (hn : n < F.length) : (partsZ F n).length ≤ 400 := by
  have hx : F[n]? = some F[n] := List.getElem?_eq_getElem hn
  rw [parts_at hx]
  split
  · exact right_kids h hx
  · simp
theorem told_putS {S : St} {n p : Nat} {c : Int} (h : mayZ m S.1 n p c = 0) (hn : n < S.1.length) (hp : p < S.1.length) : ∃ X, (putS S n p (beforeZ m S.1 n p c)).2 = S.2 ++ X ∧ Told S.1 X (putS S n p (beforeZ m S.1 n p c)).1 ∧ X.length ≤ 640000 := by
  obtain ⟨cp, hcp⟩ : ∃ cp, S.1[p]? = some cp := ⟨_, List.getElem?_eq_getElem hp⟩
  have PO := PutOk.of h hcp
  have PI := PO.inv
  have hl := parts_len PO.right hn
  unfold putS
  dsimp only
  split
  · obtain ⟨X, h1, h2, h3⟩ := told_outs (partsZ S.1 n) S (fun _ hz => hz) PI
    obtain ⟨_, h7⟩ := fold_out (partsZ S.1 n) S (fun _ hz => hz) PI
    obtain ⟨Y, h4, h5, h6⟩ := told_ins (partsZ S.1 n) _ h7
    refine ⟨X ++ Y, by rw [h4, h1, List.append_assoc], h2.trans h5, ?_⟩
    rw [List.length_append]
    omega
  · obtain ⟨Y, h4, h5, h6⟩ := told_ins (partsZ S.1 n) S PI
    exact ⟨Y, h4, h5, by omega⟩
theorem right_putS {S : St} {n p : Nat} {c : Int} (h : mayZ m S.1 n p c = 0) (hn : n < S.1.length) (hp : p < S.1.length) : rightF m (putS S n p (beforeZ m S.1 n p c)).1 = true := by
  obtain ⟨cp, hcp⟩ : ∃ cp, S.1[p]? = some cp := ⟨_, List.getElem?_eq_getElem hp⟩
  have PO := PutOk.of h hcp
  have PI := PO.inv
  unfold putS
  dsimp only
  split
  · obtain ⟨_, h7⟩ := fold_out (partsZ S.1 n) S (fun _ hz => hz) PI
    exact (fold_in (partsZ S.1 n) _ h7).2
  · exact (fold_in (partsZ S.1 n) S PI).2
structure OpR (m : Int) (F : List Core) (R : List Core × List NoteD × Int) : Prop where
  right : rightF m R.1 = true
  told : Told F R.2.1 R.1
  short : R.2.1.length ≤ 1000000
  same : R.2.2 ≠ 0 → R.1 = F ∧ R.2.1 = []
theorem op_none {F : List Core} (h : rightF m F = true) (E : Int) : OpR m F (F, [], E) := ⟨h, Told.refl F, Nat.zero_le _, fun _ => ⟨rfl, rfl⟩⟩
theorem op_ins {F : List Core} (h : rightF m F = true) {n p : Nat} {c : Int} (hn : n < F.length) (hp : p < F.length) : OpR m F (insZ m F n p c) := by
  unfold insZ
  by_cases e : mayZ m F n p c = 0
  · rw [if_pos e, Int.toNat_natCast, Int.toNat_natCast]
    obtain ⟨X, h1, h2, h3⟩ := told_putS (S := (F, [])) e hn hp
    refine ⟨right_putS (S := (F, [])) e hn hp, ?_, ?_, fun e2 => absurd rfl e2⟩
    · show Told F (putS (F, []) n p (beforeZ m F n p c)).2 _
      rw [h1]
      exact h2
    · show (putS (F, []) n p (beforeZ m F n p c)).2.length ≤ _
      rw [h1]
      show X.length ≤ _
      omega
  · rw [if_neg e]
    exact op_none h _
theorem op_rem {F : List Core} (h : rightF m F = true) {n : Nat} (hn : n < F.length) : OpR m F (remZ m F n) := by
  unfold remZ
  rw [thereF_of h hn, if_pos rfl]
  by_cases e : parentK F n = -1
  · rw [if_pos e]
    exact op_none h _
  · rw [if_neg e, Int.toNat_natCast]
    obtain ⟨X, h1, h2, h3⟩ := told_outS (S := (F, [])) h hn
    obtain ⟨hr, _⟩ := outS_facts (S := (F, [])) h hn
    refine ⟨hr, ?_, ?_, fun e2 => absurd rfl e2⟩
    · show Told F (outS (F, []) n).2 _
      rw [h1]
      exact h2
    · show (outS (F, []) n).2.length ≤ _
      rw [h1]
      show X.length ≤ _
      omega
theorem op_rep {F : List Core} (h : rightF m F = true) {n p : Nat} {c : Int} (hn : n < F.length) (hp : p < F.length) : OpR m F (repZ m F n p c) := by
  unfold repZ
  by_cases e : swapZ m F n p c = 0
  · rw [if_pos e]
    obtain ⟨hk, hcne, _⟩ := swap_ok e
    obtain ⟨_, _, _, hcc⟩ := vknows_nat hk
    obtain ⟨C, rfl, hC⟩ : ∃ k : Nat, c = k ∧ k < F.length := hcc.resolve_left hcne
    have hmay := (rep_may e).1
    obtain ⟨X, h1, h2, h3⟩ := told_outS (S := (F, [])) h hC
    have hlen := len_out (F, []) C
    have hn1 : n < (outS (F, []) C).1.length := by rw [hlen]; exact hn
    have hp1 : p < (outS (F, []) C).1.length := by rw [hlen]; exact hp
    obtain ⟨Y, h4, h5, h6⟩ := told_putS (S := outS (F, []) C) hmay hn1 hp1
    have hr := right_putS (S := outS (F, []) C) hmay hn1 hp1
    unfold repS
    rw [Int.toNat_natCast, Int.toNat_natCast, Int.toNat_natCast]
    refine ⟨hr, ?_, ?_, fun e2 => absurd rfl e2⟩
    · show Told F (putS (outS (F, []) C) n p (beforeZ m (outS (F, []) C).1 n p (behK F C))).2 _
      rw [h4, h1]
      exact h2.trans h5
    · show (putS (outS (F, []) C) n p (beforeZ m (outS (F, []) C).1 n p (behK F C))).2.length ≤ _
      rw [h4, h1, List.length_append]
      show (([] : List NoteD) ++ X).length + Y.length ≤ _
      rw [List.nil_append]
      omega
  · rw [if_neg e]
    exact op_none h _
theorem op_chg {F : List Core} (h : rightF m F = true) {n : Nat} (hn : n < F.length) (hk : kindK F n = 1) {s : List UInt8} {new : AL} (ht : Turned s (attrsK F n) new) : OpR m F (chgZ F n s new) := by
  unfold chgZ
  rw [Int.toNat_natCast]
  exact ⟨chg_right h hk ht.rightG, told_chg hn hk ht, by show 1 ≤ 1000000; omega, fun e2 => absurd rfl e2⟩
theorem op_set {F : List Core} (h : rightF m F = true) {n : Nat} (hn : n < F.length) (s : List UInt8) (v : ByteArray) : OpR m F (setZ m F n s v) := by
  unfold setZ
  by_cases e : elemE m F n = 0
  · rw [if_pos e]
    by_cases e2 : setE (attrsK F n) s v = 0
    · rw [if_pos e2]
      exact op_chg h hn (elemE_ok e).2 (turned_set e2)
    · rw [if_neg e2]
      exact op_none h _
  · rw [if_neg e]
    exact op_none h _
theorem op_uns {F : List Core} (h : rightF m F = true) {n : Nat} (hn : n < F.length) (s : List UInt8) : OpR m F (unsZ m F n s) := by
  unfold unsZ
  by_cases e : elemE m F n = 0
  · rw [if_pos e]
    by_cases e2 : fitE s = 0
    · rw [if_pos e2]
      by_cases e3 : hasA (attrsK F n) s = true
      · rw [if_pos e3]
        exact op_chg h hn (elemE_ok e).2 (turned_rem e3)
      · rw [if_neg e3]
        exact op_none h _
    · rw [if_neg e2]
      exact op_none h _
  · rw [if_neg e]
    exact op_none h _
end
end Go.Proofs.YtclledmgiliggaaGreatDoor
