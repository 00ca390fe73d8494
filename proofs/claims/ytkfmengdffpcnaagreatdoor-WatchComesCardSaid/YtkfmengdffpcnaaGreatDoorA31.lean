/- Texts joined in build order: MovePutMath MovePut. -/
import Derived.Test.YtkfmengdffpcnaaGreatDoorA25
import Derived.Test.YtkfmengdffpcnaaGreatDoorA26
import Derived.Test.YtkfmengdffpcnaaGreatDoorA22
import Derived.Test.YtkfmengdffpcnaaGreatDoorA18
import Derived.Test.YtkfmengdffpcnaaGreatDoorA02
namespace Go.Proofs.YtkfmengdffpcnaaGreatDoor
open Go.RowKit
structure PutInv (m : Int) (F : List Core) (p : Nat) (l : List Int) (b : Int) : Prop where
  right : rightF m F = true
  lt : p < F.length
  kp : kindK F p ≠ 2
  once : l.Nodup
  ls : ∀ z ∈ l, ∃ q : Nat, z = q ∧ q < F.length ∧ (kindK F q = 1 ∨ kindK F q = 2)
  over : ∀ q : Nat, (q : Int) ∈ l → ¬ holdsT (parS F) q p
  root : kindK F p = 0 → (kidsK F p).length + l.length ≤ 1 ∧ ∀ k ∈ l, kindK F k = 1
  before : b = -1 ∨ (b ∈ kidsK F p ∧ b ∉ l)
section
variable {m : Int} {F G : List Core} {p : Nat} {l r : List Int} {b : Int}
theorem PutOk.inv {n : Nat} {c : Int} {cp : Core} (h : PutOk m F n p c l cp) : PutInv m F p l (beforeZ m F n p c) := by
  refine ⟨h.right, (List.getElem?_eq_some_iff.1 h.hp).1, by rw [kindK_at h.hp]; exact h.kp, h.once, fun z hz => ?_, h.over, fun e => ?_, ?_⟩
  · obtain ⟨q, c1, h1, h2, h3⟩ := h.ls z hz
    exact ⟨q, h1, (List.getElem?_eq_some_iff.1 h2).1, by rw [kindK_at h2]; exact h3⟩
  · rw [kidsK_get h.hp]
    exact h.root (by rw [kindK_at h.hp] at e; exact e)
  · rcases h.before with e | e
    · exact .inl e
    · rw [List.mem_filter] at e
      rw [kidsK_get h.hp]
      exact .inr ⟨e.1, by simpa using e.2⟩
theorem kidsK_edit {P : Nat → Core → Int} {K : Nat → Core → List Int} {D : Nat → Core → Int} (h : Edit F G P K D) {c : Core} (hc : F[p]? = some c) : kidsK G p = K p c := kidsK_get (h.at_ p c hc)
theorem PutInv.out (h : PutInv m F p l b) {q : Nat} (hq : (q : Int) ∈ l) (hp : parentK F q ≠ -1) : PutInv m (mvOut F q) p l b := by
  obtain ⟨q', e, hql, _⟩ := h.ls _ hq
  obtain rfl : q = q' := by omega
  have hx : F[q]? = some F[q] := List.getElem?_eq_getElem hql
  rw [parentK_at hx] at hp
  obtain ⟨a, ha1, ha2, ho⟩ := mvOut_out h.right hx hp
  obtain ⟨cp, hc⟩ : ∃ cp, F[p]? = some cp := ⟨_, List.getElem?_eq_getElem h.lt⟩
  have hk : kidsK (mvOut F q) p = if p = a then cp.kids.filter (fun z => z != (q : Int)) else cp.kids := kidsK_edit ho.ed hc
  have hk0 : kidsK F p = cp.kids := kidsK_get hc
  refine ⟨ho.rightG, by rw [ho.ed.len]; exact h.lt, by rw [ho.ed.kindK]; exact h.kp, h.once, fun z hz => ?_, fun t ht hh => ?_, fun e => ?_, ?_⟩
  · obtain ⟨t, h1, h2, h3⟩ := h.ls z hz
    exact ⟨t, h1, by rw [ho.ed.len]; exact h2, by rw [ho.ed.kindK]; exact h3⟩
  · obtain ⟨t', e, htl, _⟩ := h.ls _ ht
    obtain rfl : t = t' := by omega
    exact h.over t ht ((ho.over htl h.lt).1 hh).1
  · rw [ho.ed.kindK] at e
    obtain ⟨h1, h2⟩ := h.root e
    refine ⟨?_, fun k hk => by rw [ho.ed.kindK]; exact h2 k hk⟩
    rw [hk]
    rw [hk0] at h1
    split
    · exact Nat.le_trans (Nat.add_le_add_right (List.length_filter_le _ _) _) h1
    · exact h1
  · rcases h.before with e | ⟨h1, h2⟩
    · exact .inl e
    · refine .inr ⟨?_, h2⟩
      rw [hk]
      rw [hk0] at h1
      split
      · rw [List.mem_filter]
        exact ⟨h1, bne_iff_ne.2 (fun e => h2 (by rw [e]; exact hq))⟩
      · exact h1
theorem PutInv.outs {S : St} (h : PutInv m S.1 p l b) {q : Nat} (hq : (q : Int) ∈ l) : PutInv m (outS S q).1 p l b := by
  unfold outS
  split
  · exact h
  · next hp => exact h.out hq hp
theorem parS_same {F G : List Core} (h : ∀ j : Nat, nextUp G (j : Int) = nextUp F j) : parS G = parS F := by
  funext j
  unfold parS
  rw [h j]
theorem PutInv.doc (h : PutInv m F p l b) {q : Nat} (hq : (q : Int) ∈ l) (hp : parentK F q = -1) {d : Int} (hd : ∃ c, getC F d = some c ∧ c.kind = 0) : PutInv m (mvDoc F q d) p l b := by
  obtain ⟨q', e, hql, hqk⟩ := h.ls _ hq
  obtain rfl : q = q' := by omega
  have T := taken_doc h.right hql hp hqk hd
  obtain ⟨cp, hc⟩ : ∃ cp, F[p]? = some cp := ⟨_, List.getElem?_eq_getElem h.lt⟩
  have hk : kidsK (mvDoc F q d) p = kidsK F p := by rw [kidsK_edit T.ed hc, kidsK_get hc]
  have hpar := parS_same T.next
  exact ⟨T.rightG, by rw [T.ed.len]; exact h.lt, by rw [T.ed.kindK]; exact h.kp, h.once, fun z hz => by
    obtain ⟨t, h1, h2, h3⟩ := h.ls z hz
    exact ⟨t, h1, by rw [T.ed.len]; exact h2, by rw [T.ed.kindK]; exact h3⟩, fun t ht hh => h.over t ht (by rw [hpar] at hh; exact hh), fun e => by
    rw [T.ed.kindK] at e
    rw [hk]
    obtain ⟨h1, h2⟩ := h.root e
    exact ⟨h1, fun k hk => by rw [T.ed.kindK]; exact h2 k hk⟩, by rw [hk]; exact h.before⟩
theorem doc_is (h : rightF m F = true) {p : Nat} (hp : p < F.length) : ∃ c, getC F (docK F p) = some c ∧ c.kind = 0 := by
  obtain ⟨cp, hc⟩ : ∃ cp, F[p]? = some cp := ⟨_, List.getElem?_eq_getElem hp⟩
  rw [docK_at hc]
  exact (right_node h hc).doc
structure Overs (m : Int) (S : St) (q p : Nat) (l : List Int) (b d : Int) (T : St) : Prop where
  inv : PutInv m T.1 p l b
  len : T.1.length = S.1.length
  par : parentK T.1 q = -1
  docq : docK T.1 q = d
  docp : docK T.1 p = docK S.1 p
theorem PutInv.overs {S : St} (h : PutInv m S.1 p l b) {q : Nat} (hq : (q : Int) ∈ l) {d : Int} (hd : ∃ c, getC S.1 d = some c ∧ c.kind = 0) : Overs m S q p l b d (overS S q d) := by
  obtain ⟨q', e, hql, hqk⟩ := h.ls _ hq
  obtain rfl : q = q' := by omega
  obtain ⟨hr1, ⟨P, K, hed⟩, hp1⟩ := outS_facts (S := S) h.right hql
  have h1 := h.outs hq
  obtain ⟨xp, hx⟩ : ∃ xp, S.1[p]? = some xp := ⟨_, List.getElem?_eq_getElem h.lt⟩
  have hxq : S.1[q]? = some S.1[q] := List.getElem?_eq_getElem hql
  have hdp : docK (outS S q).1 p = docK S.1 p := by rw [docK_at (hed.at_ p _ hx), docK_at hx]; rfl
  unfold overS
  dsimp only
  split
  · next e => exact ⟨h1, hed.len, hp1, e, hdp⟩
  · next e =>
    have hql1 : q < (outS S q).1.length := by rw [hed.len]; exact hql
    have hpl1 : p < (outS S q).1.length := by rw [hed.len]; exact h.lt
    have hed2 : Edit (outS S q).1 (mvDoc (outS S q).1 q d) (fun _ c => c.parent) (fun _ c => c.kids) (fun j c => if (j : Int) ∈ allI (outS S q).1 q then d else c.doc) := edF_edit (outS S q).1 (fun _ c => c.parent) (fun _ c => c.kids) (fun j c => if (j : Int) ∈ allI (outS S q).1 q then d else c.doc)
    obtain ⟨xp1, hx1⟩ : ∃ xp, (outS S q).1[p]? = some xp := ⟨_, List.getElem?_eq_getElem hpl1⟩
    have hxq1 : (outS S q).1[q]? = some (outS S q).1[q] := List.getElem?_eq_getElem hql1
    refine ⟨h1.doc hq hp1 (docIs_edit hed hd), hed2.len.trans hed.len, ?_, ?_, ?_⟩
    · show parentK (mvDoc (outS S q).1 q d) q = -1
      rw [parentK_at (hed2.at_ q _ hxq1)]
      rw [parentK_at hxq1] at hp1
      exact hp1
    · show docK (mvDoc (outS S q).1 q d) q = d
      rw [docK_at (hed2.at_ q _ hxq1)]
      exact if_pos ((mem_all h1.right hql1 hql1).2 (holds_refl q))
    · show docK (mvDoc (outS S q).1 q d) p = docK S.1 p
      rw [docK_at (hed2.at_ p _ hx1), ← hdp, docK_at hx1]
      exact if_neg (fun hh => h1.over q hq ((mem_all h1.right hql1 hpl1).1 hh))
theorem PutInv.put {q : Nat} (h : PutInv m F p ((q : Int) :: r) b) (hp : parentK F q = -1) (hd : docK F q = docK F p) : PutInv m (mvIn F q p b) p r b := by
  have hq : (q : Int) ∈ (q : Int) :: r := List.mem_cons_self
  obtain ⟨q', e, hql, hqk⟩ := h.ls _ hq
  obtain rfl : q = q' := by omega
  have hx : F[q]? = some F[q] := List.getElem?_eq_getElem hql
  obtain ⟨cp, hc⟩ : ∃ cp, F[p]? = some cp := ⟨_, List.getElem?_eq_getElem h.lt⟩
  have hov := h.over q hq
  have hqp : q ≠ p := fun e => hov (by rw [e]; exact holds_refl p)
  have hk0 : kidsK F p = cp.kids := kidsK_get hc
  have notin : ∀ (j : Nat) (c : Core), F[j]? = some c → (q : Int) ∉ c.kids := fun j c hj hm => by
    obtain ⟨c', h1, _, h3, _⟩ := (right_node h.right hj).kids _ hm
    rw [getC_nat, hx] at h1
    rw [parentK_at hx] at hp
    rw [← Option.some.inj h1, hp] at h3
    omega
  have hb : b = -1 ∨ b ∈ cp.kids := by
    rcases h.before with e | ⟨h1, _⟩
    · exact .inl e
    · rw [hk0] at h1
      exact .inr h1
  have hfil : ∀ (j : Nat) (c : Core), F[j]? = some c → c.kids.filter (fun z => !([(q : Int)] : List Int).contains z) = c.kids := fun j c hj => List.filter_eq_self.2 (fun z hz => by
    have : z ≠ (q : Int) := fun e => notin j c hj (by rw [← e]; exact hz)
    simpa using this)
  have hedi := edF_edit F (fun j c => if j = q then (p : Int) else c.parent) (fun j c => if j = p then insB c.kids b q else c.kids) (fun _ c => c.doc)
  have hIn : PutIn m F (mvIn F q p b) [(q : Int)] p cp (cp.kids.take (insAt cp.kids b)) (cp.kids.drop (insAt cp.kids b)) (fun j => decide ((j : Int) ∈ allI F q)) := by
    refine ⟨h.right, hc, by rw [← kindK_at hc]; exact h.kp, by simp, fun z hz => ?_, fun t ht => ?_, ?_, fun e => ?_, fun j hj => ?_, hedi.cong (fun j c hj => ⟨?_, ?_, ?_⟩)⟩
    · rw [List.mem_singleton] at hz
      exact ⟨q, F[q], hz, hx, by rw [← kindK_at hx]; exact hqk⟩
    · have : t = q := Int.ofNat_inj.1 (by simpa using ht)
      rw [this]
      exact hov
    · rw [List.take_append_drop]
      exact (hfil p _ hc).symm
    · have h1 := h.root (by rw [kindK_at hc]; exact e)
      rw [hk0, List.length_cons] at h1
      have hnil : cp.kids = [] := List.eq_nil_of_length_eq_zero (by omega)
      rw [hnil]
      simp only [List.take_nil, List.drop_nil, List.nil_append, List.append_nil, List.length_singleton]
      exact ⟨Nat.le_refl _, fun k hk => by rw [List.mem_singleton] at hk; rw [hk]; exact h1.2 _ hq⟩
    · rw [decide_eq_true_iff, mem_all h.right hql hj]
      constructor
      · exact fun hh => ⟨q, by simp, hh⟩
      · rintro ⟨t, ht, hh⟩
        have : t = q := Int.ofNat_inj.1 (by simpa using ht)
        rw [← this]
        exact hh
    · by_cases e : j = q
      · subst e; simp
      · rw [if_neg e, if_neg (by simpa using (fun h2 => e (by omega) : (j : Int) ≠ (q : Int)))]
    · by_cases e : j = p
      · subst e
        rw [hc] at hj
        rw [if_pos rfl, if_pos rfl, ← Option.some.inj hj, ← insB_eq]
        simp
      · rw [if_neg e, if_neg e, hfil j c hj]
    · by_cases e : (j : Int) ∈ allI F q
      · have hjl := (List.getElem?_eq_some_iff.1 hj).1
        have h1 := doc_all h.right hql e hjl
        rw [hd, docK_at hj, docK_at hc] at h1
        simp only [decide_eq_true e, if_true]
        exact h1
      · simp only [decide_eq_false e, Bool.false_eq_true, if_false]
  have hed : Edit F (mvIn F q p b) (fun j c => if j = q then (p : Int) else c.parent) (fun j c => if j = p then insB c.kids b q else c.kids) (fun _ c => c.doc) := hedi
  have hkG : kidsK (mvIn F q p b) p = insB cp.kids b q := by rw [kidsK_edit hed hc]; exact if_pos rfl
  have hup : ∀ (k c a : Nat), c < F.length → ¬ holdsT (parS F) q c → upN (parS (mvIn F q p b)) k c = some a → upN (parS F) k c = some a := by
    intro k
    induction k with
    | zero => exact fun c a _ _ hu => hu
    | succ k ih =>
      intro c a hcl hn hu
      unfold upN at hu ⊢
      have hcq : c ≠ q := fun e => hn (by rw [e]; exact holds_refl q)
      have hpc : parS (mvIn F q p b) c = parS F c := by
        unfold parS
        have h1 := hIn.next hcl
        rw [if_neg (by simpa using (fun h2 => hcq (by omega) : (c : Int) ≠ (q : Int)))] at h1
        rw [h1]
      rw [hpc] at hu
      cases hq2 : parS F c with
      | none => rw [hq2] at hu; cases hu
      | some t =>
        rw [hq2] at hu
        exact ih t a (parS_next h.right hcl hq2).2 (fun hh => hn (holds_trans hh (holds_par hq2))) hu
  refine ⟨hIn.rightG, by rw [hed.len]; exact h.lt, by rw [hed.kindK]; exact h.kp, (List.nodup_cons.1 h.once).2, fun z hz => ?_, fun t ht hh => ?_, fun e => ?_, ?_⟩
  · obtain ⟨t, h1, h2, h3⟩ := h.ls z (List.mem_cons_of_mem _ hz)
    exact ⟨t, h1, by rw [hed.len]; exact h2, by rw [hed.kindK]; exact h3⟩
  · obtain ⟨k, hk⟩ := hh
    exact h.over t (List.mem_cons_of_mem _ ht) ⟨k, hup k p t h.lt hov hk⟩
  · rw [hed.kindK] at e
    obtain ⟨h1, h2⟩ := h.root e
    refine ⟨?_, fun k hk => by rw [hed.kindK]; exact h2 k (List.mem_cons_of_mem _ hk)⟩
    rw [hkG, ← insB_eq]
    rw [hk0, List.length_cons] at h1
    simp only [List.length_append, List.length_cons, List.length_take, List.length_drop]
    omega
  · rcases h.before with e | ⟨h1, h2⟩
    · exact .inl e
    · refine .inr ⟨?_, fun hh => h2 (List.mem_cons_of_mem _ hh)⟩
      rw [hkG, ← insB_eq]
      rw [hk0, ← List.take_append_drop (insAt cp.kids b) cp.kids] at h1
      rcases List.mem_append.1 h1 with h1 | h1
      · exact List.mem_append.2 (.inl h1)
      · exact List.mem_append.2 (.inr (List.mem_cons_of_mem _ h1))
theorem PutInv.ins {S : St} {q : Nat} (h : PutInv m S.1 p ((q : Int) :: r) b) : PutInv m (inS p b S q).1 p r b := by
  have hO := h.overs List.mem_cons_self (doc_is h.right h.lt)
  exact hO.inv.put hO.par (hO.docq.trans hO.docp.symm)
end
end Go.Proofs.YtkfmengdffpcnaaGreatDoor
namespace Go.Proofs.YtkfmengdffpcnaaGreatDoor
open Go.RowKit
abbrev wkB (b : Nat) : Obj := .cells #[.pointer (some ⟨b, 0, none⟩)] 80
abbrev wkZ : Obj := .cells #[.pointer none] 80
theorem cell_box {W : World} {v : Value} {t : TypeId} : (W.alloc (.cells #[v] t)).cell? ⟨W.heap.size, 0, none⟩ = some v := by
  have := cell_of_row (W.alloc (.cells #[v] t)) W.heap.size 0 #[v] t (0, 0) (heap_alloc_new W _)
  rw [this]
  rfl
section
variable {m : Int}
theorem outS_len {S : St} (h : rightF m S.1 = true) {n : Nat} (hn : n < S.1.length) : (outS S n).2.length ≤ S.2.length + 400 := by
  unfold outS
  split
  · omega
  · have := tellN_len h hn (note 2)
    show (if connF S.1 n then S.2 ++ tellN S.1 n (note 2) else S.2).length ≤ _
    split
    · rw [List.length_append]; omega
    · omega
theorem overS_len {S : St} (h : rightF m S.1 = true) {n : Nat} (hn : n < S.1.length) (d : Int) : (overS S n d).2.length ≤ S.2.length + 800 := by
  have h1 := outS_len h hn
  obtain ⟨hr, ⟨P, K, hed⟩, _⟩ := outS_facts h hn
  unfold overS
  dsimp only
  split
  · omega
  · rw [List.length_append]
    have := tellN_len hr (n := n) (by rw [hed.len]; exact hn) ⟨3, 0, docK (outS S n).1 n, d, ⟨#[]⟩, false, false, ⟨#[]⟩, ⟨#[]⟩⟩
    omega
theorem parentK_out {F : List Core} {q z : Nat} (hz : z < F.length) (hne : z ≠ q) : parentK (mvOut F q) z = parentK F z := by
  have hc : F[z]? = some F[z] := List.getElem?_eq_getElem hz
  have hed : Edit F (mvOut F q) (fun j c => if j = q then -1 else c.parent) (fun j c => if (j : Int) = parentK F q then c.kids.filter (fun z => z != (q : Int)) else c.kids) (fun _ c => c.doc) := edF_edit _ _ _ _
  rw [parentK_at (hed.at_ z _ hc), parentK_at hc]
  exact if_neg hne
end
section
variable {ρ : Nat → Nat} {pw g cap len : Nat} {m : Int} {M : List NodeD} {v : Value} {N : List NoteD}
theorem chain_turn {ρ ρk ρ' : Nat → Nat} {w wr w' : World} (T : Turn ρ w wr) (A : ∀ k, k < w.heap.size → ρk k = ρ k) (T' : Turn ρk wr w') (A' : ∀ k, k < wr.heap.size → ρ' k = ρk k) : Turn ρ w w' ∧ ∀ k, k < w.heap.size → ρ' k = ρ k :=
  ⟨T.trans A T', fun k hk => (A' k (Nat.lt_of_lt_of_le hk T.size)).trans (A k hk)⟩
set_option maxHeartbeats 16000000 in
set_option maxRecDepth 100000 in
theorem mpart_any (w : World) (h : Wk ρ w pw g cap len m M v N) (hs : smallF M) (q p : Nat) (bz : Int) (r : List Int) (PI : PutInv m (coreL M) p ((q : Int) :: r) bz) (hN : N.length ≤ 80000000) :
    Calls Tryz.prog 56 #[ptrV pw, .int .i64 q, .int .i64 p, .int .i64 bz] w (WkPost ρ w pw g cap len m fun M' N' => (coreL M', N') = inS p bz (coreL M, N) q ∧ smallF M') := by
  have hmem : (q : Int) ∈ (q : Int) :: r := List.mem_cons_self
  have HL : (coreL M).length = len := by rw [coreL_len, h.hlen]
  obtain ⟨q', hqq, hql0, hkq⟩ := PI.ls _ hmem
  obtain rfl : q = q' := by omega
  have hql : q < len := by rw [← HL]; exact hql0
  have hpl : p < len := by rw [← HL]; exact PI.lt
  have hl1k : len ≤ 1000 := by rw [← h.hlen]; exact hs.1
  obtain ⟨y, hy⟩ : ∃ y, M[p]? = some y := ⟨_, List.getElem?_eq_getElem (by rw [h.hlen]; exact hpl)⟩
  have hdy : docK (coreL M) p = y.core.doc := docK_at (coreL_get hy)
  have hdoc := doc_is PI.right PI.lt
  rw [hdy] at hdoc
  have OV := Lib.hid (PI.overs (S := (coreL M, N)) hmem hdoc)
  have hqp : q ≠ p := fun e => PI.over q hmem (by rw [e]; exact holds_refl p)
  have CO := Lib.hid (mover_any w h PI.right hs q hql hkq y.core.doc (h.fld y (List.mem_of_getElem? hy)).doc hdoc (by omega))
  have PK2 : Hid (rightF m (inS p bz (coreL M, N) q).1 = true) := Lib.hid (PutInv.ins (S := (coreL M, N)) PI).right
  have LK2 : Hid ((overS (coreL M, N) q y.core.doc).2.length ≤ N.length + 800) := Lib.hid (overS_len (S := (coreL M, N)) PI.right hql0 _)
  have HIN : Hid (inS p bz (coreL M, N) q = (mvIn (overS (coreL M, N) q y.core.doc).1 q p bz, if connF (mvIn (overS (coreL M, N) q y.core.doc).1 q p bz) q then (overS (coreL M, N) q y.core.doc).2 ++ tellN (mvIn (overS (coreL M, N) q y.core.doc).1 q p bz) q (note 1) else (overS (coreL M, N) q y.core.doc).2)) := Lib.hid (by
    unfold inS
    simp only [hdy])
  have p0 := h.c0
  have y9 := (h.at_ hy).c9
  have hl64 : (len : Int) ≤ 9223372036854775807 := by omega
  have HN := Lib.hid hN
  clear PI hy hdy hdoc hqq hkq hmem h hs hN hql0 HL
  go_enter Tryz.func56, Tryz.ntmps56
  go_upto_if 27 with (first
    | (go_at_call 88; (with_reducible refine CO.out.mono ?_); rintro e w3 ⟨rfl, ρ3, M3, v3, N3, W3, T3, A3, E3, S3, R3⟩; have W3 := Lib.hid W3; have T3 := Lib.hid T3; have A3 := Lib.hid A3; have E3 := Lib.hid E3; have S3 := Lib.hid S3)
    | (go_at_call 89; (refine (mstand_any w3 W3.out S3.out q p hql hpl hqp bz (by have h1 := OV.out.inv.before; rw [← E3.out] at h1; exact h1.imp id And.left)).mono ?_); rintro e w4 ⟨rfl, ρ4, M4, v4, N4, W4, T4, A4, E4, rfl⟩; have W4 := Lib.hid W4; have T4 := Lib.hid T4; have A4 := Lib.hid A4; have HM4 : Hid (coreL M4 = mvIn (overS (coreL M, N) q y.core.doc).1 q p bz) := (Lib.hid (by rw [E4, ← E3.out])); have R4 : Hid (rightF m (coreL M4) = true) := (Lib.hid (by have h1 := PK2.out; rw [HIN.out] at h1; rw [HM4.out]; exact h1)); have S4 : Hid (smallF M4) := (Lib.hid (small_edit S3.out (by rw [E4]; exact edF_edit _ _ _ _) R4.out)); clear E4)
    | (go_at_call 84; (refine (mconn_any w4 W4.out R4.out q hql).mono ?_); rintro e w5 ⟨rfl, hb5⟩; have W5 := Lib.hid (W4.out.keep hb5); have HB5 := Lib.hid hb5; clear hb5))
  have HN4 : Hid (N4 = (overS (coreL M, N) q y.core.doc).2) := Lib.hid (congrArg Prod.snd E3.out)
  have hN4 : N4.length ≤ 80000800 := by have := LK2.out; rw [← HN4.out] at this; have := HN.out; omega
  obtain ⟨T6, A6⟩ := chain_turn T3.out A3.out T4.out A4.out
  have T7 := T6.keep HB5.out
  have T7 := Lib.hid T7
  have A6 := Lib.hid A6
  obtain ⟨cb, hcb⟩ : ∃ cb, connF (coreL M4) q = cb := ⟨_, rfl⟩
  rw [hcb]
  have HCB := Lib.hid hcb
  have HRES : Hid (inS p bz (coreL M, N) q = (coreL M4, if cb then N4 ++ tellN (coreL M4) q (note 1) else N4)) := Lib.hid (by
    rw [HIN.out, ← HM4.out, ← HN4.out, HCB.out])
  clear hcb T6
  cases cb with
  | false =>
    go_wp2
    refine bodyPost_ret (v := .tuple #[]) (by simp [results, Tryz.results56]) rfl ⟨rfl, ρ4, M4, v4, N4, W5.out, T7.out, A6.out, by rw [HRES.out]; rfl, S4.out⟩
  | true =>
    have CT := Lib.hid (mtell_any w5 W5.out R4.out S4.out q hql (note 1) (noteOk_note 1 ⟨by decide, by decide⟩) (by omega))
    go_wp2_with (go_at_call 87; (with_reducible refine CT.out.mono ?_); rintro e w9 ⟨rfl, ρ9, M9, v9, N9, W9, T9, A9, rfl, rfl⟩)
    obtain ⟨T10, A10⟩ := chain_turn T7.out A6.out T9 A9
    refine bodyPost_ret (v := .tuple #[]) (by simp [results, Tryz.results56]) rfl ⟨rfl, ρ9, M9, v9, _, W9, T10, A10, by rw [HRES.out]; rfl, S4.out⟩
theorem inS_len {S : St} {p q : Nat} {r : List Int} {b : Int} (h : PutInv m S.1 p ((q : Int) :: r) b) : (inS p b S q).2.length ≤ S.2.length + 1200 := by
  obtain ⟨q', e, hq, hk⟩ := h.ls _ List.mem_cons_self
  obtain rfl : q = q' := by omega
  have h1 := overS_len (S := S) h.right hq (docK S.1 p)
  have hG := h.ins.right
  have hl : (overS S q (docK S.1 p)).1.length = S.1.length := (h.overs List.mem_cons_self (doc_is h.right h.lt)).len
  unfold inS at hG ⊢
  dsimp only at hG ⊢
  split
  · rw [List.length_append]
    have := tellN_len hG (n := q) (by show q < (mvIn (overS S q (docK S.1 p)).1 q p b).length; rw [show (mvIn (overS S q (docK S.1 p)).1 q p b).length = (overS S q (docK S.1 p)).1.length from (edF_edit _ _ _ _).len, hl]; exact hq) (note 1)
    omega
  · omega
set_option maxHeartbeats 16000000 in
set_option maxRecDepth 100000 in
theorem mput_any (w : World) (h : Wk ρ w pw g cap len m M v N) (hm : In64 m) (hs : smallF M) (n p : Nat) (c : Int) (hc64 : In64 c) (hn : n < len) (hpl : p < len) (hmay : mayZ m (coreL M) n p c = 0) (hN : N.length ≤ 70000000) :
    Calls Tryz.prog 27 #[workV pw, .int .i64 n, .int .i64 p, .int .i64 c] w (WkPost ρ w pw g cap len m fun M' N' => (coreL M', N') = putS (coreL M, N) n p (beforeZ m (coreL M) n p c) ∧ smallF M' ∧ rightF m (coreL M') = true) := by
  have HL : Hid ((coreL M).length = len) := Lib.hid (by rw [coreL_len, h.hlen])
  have hl1k : len ≤ 1000 := by rw [← h.hlen]; exact hs.1
  obtain ⟨cp, hcp⟩ : ∃ cp, (coreL M)[p]? = some cp := ⟨_, List.getElem?_eq_getElem (by rw [HL.out]; exact hpl)⟩
  have PO := PutOk.of hmay hcp
  have hr := PO.right
  have PI := PO.inv
  obtain ⟨x, hx⟩ : ∃ x, M[n]? = some x := ⟨_, List.getElem?_eq_getElem (by rw [h.hlen]; exact hn)⟩
  obtain ⟨l, hl⟩ : ∃ l, partsZ (coreL M) n = l := ⟨_, rfl⟩
  obtain ⟨bz, hbz⟩ : ∃ bz, beforeZ m (coreL M) n p c = bz := ⟨_, rfl⟩
  rw [hbz, hl] at PI
  have CB : Hid (∀ W, NodeRow W (some ⟨g, 0, none⟩) len cap M → Calls Tryz.prog 53 #[forV (some ⟨g, 0, none⟩) len cap m, .int .i64 n, .int .i64 p, .int .i64 c] W fun e w' => e = .returned (.int .i64 bz) ∧ Below W.heap.size W w') := Lib.hid (fun W h1 => by
    rw [← hbz]
    exact vbefore_any _ len cap m M n p c W h1 hm (in64_nat (by omega)) (in64_nat (by omega)) hc64 hs)
  have CP : Hid (∀ W, NodeRow W (some ⟨g, 0, none⟩) len cap M → Calls Tryz.prog 54 #[forV (some ⟨g, 0, none⟩) len cap m, .int .i64 n] W (OrdNew W l)) := Lib.hid (fun W h1 => by
    rw [← hl]
    exact vpartsNew_any _ len cap m M n W h1 (in64_nat (by omega)) hs)
  have HX0 : Hid (kindK (coreL M) n = x.core.kind) := Lib.hid (kindK_at (coreL_get hx))
  have HPUT : Hid (putS (coreL M, N) n p bz = (l.map Int.toNat).foldl (inS p bz) (if x.core.kind = 3 then (l.map Int.toNat).foldl outS (coreL M, N) else (coreL M, N))) := Lib.hid (by
    unfold putS
    simp only [hl, HX0.out])
  have HLP : Hid (x.core.kind = 3 → ∀ z ∈ l, parentK (coreL M) z = n) := Lib.hid (fun e z hz => by
    rw [← hl, parts_at (coreL_get hx), if_pos e] at hz
    obtain ⟨c1, h1, _, h3, _⟩ := (right_node hr (coreL_get hx)).kids z hz
    unfold parentK
    rw [h1]
    exact h3)
  have PIV := Lib.hid PI
  have HS := Lib.hid hs
  have HW := Lib.hid h
  have HX := Lib.hid hx
  have HN := Lib.hid hN
  have hl64 : (len : Int) ≤ 9223372036854775807 := by omega
  obtain ⟨w0, hw0, W0, HBX, HBZ⟩ : ∃ w0, w.alloc (wkB pw) = w0 ∧ Hid (Wk ρ w0 pw g cap len m M v N) ∧ Hid (Below w.heap.size w w0) ∧ Hid (w0.cell? ⟨w.heap.size, 0, none⟩ = some (ptrV pw) ∧ w.heap.size < w0.heap.size) := ⟨_, rfl, Lib.hid (h.keep (below_box _ _)), Lib.hid (below_box _ _), Lib.hid ⟨cell_box, by simp⟩⟩
  have HW0 := Lib.hid hw0
  have HRB : Hid (ρ w.heap.size = 0) := Lib.hid (h.fresh _ (Nat.le_refl _))
  have p0 := W0.out.c0
  have p1 := W0.out.c1
  have zw := HBZ.out.1
  rw [hbz]
  have HLL : Hid (l.length ≤ 1000) := Lib.hid (by
    rw [← hl, parts_at (coreL_get hx)]
    split
    · exact Nat.le_trans (right_kids hr (coreL_get hx)) (by decide)
    · simp)
  clear PO PI hr hcp hbz hl h hs hx hmay hm hc64 hw0
  go_enter Tryz.func27, Tryz.ntmps27
  go_upto_region 1 with fail
  rw [HW0.out]
  go_cut [8, 9] (fun q r wx => ∃ (pa : Option Addr) (pl pc : Nat), q = .int .i64 bz ∧ r = .slice pa pl pc ∧ Hid (Below w0.heap.size w0 wx) ∧ Hid (IntRow wx pa pl pc l) ∧ Hid (∀ b off, pa = some ⟨b, off, none⟩ → w0.heap.size ≤ b))
  case first =>
    have KEEP : Hid (∀ W, Below w0.heap.size w0 W → NodeRow W (some ⟨g, 0, none⟩) len cap M ∧ W.cell? ⟨pw, 0, none⟩ = some (.slice (some ⟨g, 0, none⟩) len cap) ∧ W.cell? ⟨pw, 1, none⟩ = some (.int .i64 m) ∧ W.cell? ⟨w.heap.size, 0, none⟩ = some (ptrV pw)) := Lib.hid (fun W hb => by
      have := W0.out.keep hb
      exact ⟨this.row, this.c0, this.c1, (hb.cell (p := ⟨w.heap.size, 0, none⟩) HBZ.out.2).trans HBZ.out.1⟩)
    have B0 := Lib.hid ((Below.refl w0.heap.size w0).drew)
    go_region_with (first
      | (go_at_call 53; (refine (CB.out _ (KEEP.out _ B0.out).1).mono ?_); rintro e w1 ⟨rfl, hb⟩; have B0 := Lib.hid (B0.out.trans (hb.mono B0.out.size)); have p0 := (KEEP.out _ B0.out).2.1; have p1 := (KEEP.out _ B0.out).2.2.1; have zw := (KEEP.out _ B0.out).2.2.2; (try (have IR := Lib.hid (IR.out.below hb))); clear hb)
      | (go_at_call 54; (refine (CP.out _ (KEEP.out _ B0.out).1).mono ?_); rintro e w1 ⟨pa, pl, pc, rfl, hrl, hb, hrn⟩; have IN0 : Hid (∀ b off, pa = some ⟨b, off, none⟩ → w0.heap.size ≤ b) := Lib.hid (fun b off e => Nat.le_trans B0.out.size (hrn b off e)); have B0 := Lib.hid (B0.out.trans (hb.mono B0.out.size)); have p0 := (KEEP.out _ B0.out).2.1; have p1 := (KEEP.out _ B0.out).2.2.1; have zw := (KEEP.out _ B0.out).2.2.2; have IR := Lib.hid hrl; clear hb hrl hrn))
    all_goals go_wp2
    all_goals
      go_meet
      exact ⟨_, _, _, rfl, rfl, B0, IR, IN0⟩
  case rest =>
    obtain ⟨pa, pl, pc, rfl, rfl, HB1, IR, INW⟩ := hcut
    obtain ⟨wd, rfl⟩ : ∃ wd, wd = wc := ⟨_, rfl⟩
    have W1 := Lib.hid (W0.out.keep HB1.out)
    have IR0 : Hid (∀ b off, pa = some ⟨b, off, none⟩ → 0 < pl → ρ b = 0) := Lib.hid (fun b off e _ => W0.out.fresh b (INW.out b off e))
    have hwd : w.heap.size < wd.heap.size := Nat.lt_of_lt_of_le HBZ.out.2 HB1.out.size
    have ZWD : Hid (wd.cell? ⟨w.heap.size, 0, none⟩ = some (ptrV pw)) := Lib.hid ((HB1.out.cell (p := ⟨w.heap.size, 0, none⟩) HBZ.out.2).trans HBZ.out.1)
    have zw := ZWD.out
    have hpll : l.length = pl := IR.out.hlen
    have HPLL := Lib.hid hpll
    have hpl1k : pl ≤ 1000 := by rw [← hpll]; exact HLL.out
    clear p0 p1 hpll CB CP
    have p0 := W1.out.c0
    have x0 := (W1.out.at_ HX.out).c0
    have HQ : Hid (∀ (k : Nat) (z : Int), l[k]? = some z → ∃ q : Nat, z = q ∧ q < len) := Lib.hid (fun k z hz => by
      obtain ⟨q, h1, h2, _⟩ := PIV.out.ls z (List.mem_of_getElem? hz)
      exact ⟨q, h1, by rw [← HL.out]; exact h2⟩)
    go_upto_if 40 with fail
    go_cut [] (fun wx => True ∧ ∃ ρ1 M1 v1 N1, Hid (Wk ρ1 wx pw g cap len m M1 v1 N1) ∧ Hid (Turn ρ wd wx) ∧ Hid (∀ k, k < wd.heap.size → ρ1 k = ρ k) ∧ Hid ((coreL M1, N1) = if x.core.kind = 3 then (l.map Int.toNat).foldl outS (coreL M, N) else (coreL M, N)) ∧ Hid (smallF M1) ∧ Hid (PutInv m (coreL M1) p l bz) ∧ Hid (N1.length ≤ 72000000))
    case first =>
      by_cases hk3 : x.core.kind = 3
      · have e1 : (x.core.kind == 3) = true := beq_iff_eq.2 hk3
        have HP0 : Hid (∀ z ∈ l, parentK (coreL M) z ≠ -1) := Lib.hid (fun z hz => by rw [HLP.out hk3 z hz]; omega)
        have HK3 := Lib.hid hk3
        clear hk3
        rw [e1]
        go_wp2
        go_loopw [43] (fun i wr => ∃ (k : Nat) (ρk : Nat → Nat) (Mk : List NodeD) (vk : Value) (Nk : List NoteD), k ≤ pl ∧ i = .int .i64 k ∧ Hid (Wk ρk wr pw g cap len m Mk vk Nk) ∧ Hid (Turn ρ wd wr) ∧ Hid (∀ k, k < wd.heap.size → ρk k = ρ k) ∧ Hid ((coreL Mk, Nk) = ((l.take k).map Int.toNat).foldl outS (coreL M, N)) ∧ Hid (smallF Mk) ∧ Hid (PutInv m (coreL Mk) p l bz) ∧ Hid (∀ z ∈ l.drop k, parentK (coreL Mk) z ≠ -1) ∧ Nk.length ≤ N.length + 400 * k) (fun i _ => pl - (intOf i).toNat)
        case atStart => exact ⟨0, ρ, M, v, N, Nat.zero_le _, rfl, W1, Lib.hid (Turn.refl _ _), Lib.hid (fun _ _ => rfl), Lib.hid rfl, HS, PIV, Lib.hid HP0.out, Nat.le_refl _⟩
        case round =>
          clear p0 x0 zw
          obtain ⟨k, ρk, Mk, vk, Nk, hk, rfl, WK, TK, AK, EK, SK, PK, QK, hNk⟩ := hrel
          have zw := (TK.out.cell hwd HRB.out).trans ZWD.out
          by_cases hlt : k < pl
          · obtain ⟨bp, op, z, hpa, hbp, hz, hcz, hin⟩ := (TK.out.introw IR.out IR0.out).get hlt
            obtain ⟨q, rfl, hql⟩ := HQ.out k z hz
            have hmem := List.mem_of_getElem? hz
            have hdrop : (q : Int) ∈ l.drop k := by
              refine List.mem_of_getElem? (i := 0) ?_
              rw [List.getElem?_drop, Nat.add_zero]
              exact hz
            have CO := Lib.hid (mgoOut_any wr WK.out PK.out.right SK.out q hql (QK.out _ hdrop) (by have := HN.out; omega))
            have EK2 : Hid (((l.take (k + 1)).map Int.toNat).foldl outS (coreL M, N) = outS (coreL Mk, Nk) q) := Lib.hid (by
              rw [List.take_add_one, hz, List.map_append, List.foldl_append, ← EK.out]
              rfl)
            have PK2 : Hid (PutInv m (outS (coreL Mk, Nk) q).1 p l bz) := Lib.hid (PK.out.outs (S := (coreL Mk, Nk)) hmem)
            have HLK : Hid ((coreL Mk).length = len) := Lib.hid (by rw [coreL_len, WK.out.hlen])
            have LK2 : Hid ((outS (coreL Mk, Nk) q).2.length ≤ Nk.length + 400) := Lib.hid (outS_len (S := (coreL Mk, Nk)) PK.out.right (show q < (coreL Mk).length by rw [HLK.out]; exact hql))
            have QK2 : Hid (∀ z ∈ l.drop (k + 1), parentK (outS (coreL Mk, Nk) q).1 z ≠ -1) := Lib.hid (fun z hz2 => by
              obtain ⟨i, hi⟩ := List.getElem?_of_mem hz2
              rw [List.getElem?_drop] at hi
              obtain ⟨t, rfl, htl⟩ := HQ.out _ z hi
              have hne : t ≠ q := fun e => by
                subst e
                have := (List.getElem?_inj (List.getElem?_eq_some_iff.1 hz).1 PIV.out.once).1 (hz.trans hi.symm)
                omega
              have hd2 : (t : Int) ∈ l.drop k := List.mem_of_getElem? (i := 1 + i) (by rw [List.getElem?_drop, ← Nat.add_assoc]; exact hi)
              have h3 := QK.out _ hd2
              unfold outS
              rw [if_neg (QK.out _ hdrop)]
              show parentK (mvOut (coreL Mk) q) t ≠ -1
              rw [parentK_out (by rw [HLK.out]; exact htl) hne]
              exact h3)
            subst hpa
            have hk64 : (k : Int) + 1 ≤ 9223372036854775807 := by omega
            clear hz hin hmem hdrop
            go_wp2_with (go_at_call 55; (with_reducible refine CO.out.mono ?_); rintro e w9 ⟨rfl, ρ9, M9, v9, N9, W9, T9, A9, E9, S9, R9⟩)
            obtain ⟨TT, AA⟩ := chain_turn TK.out AK.out T9 A9
            have HE9 : Hid (coreL M9 = (outS (coreL Mk, Nk) q).1 ∧ N9 = (outS (coreL Mk, Nk) q).2) := Lib.hid ⟨congrArg Prod.fst E9, congrArg Prod.snd E9⟩
            have hN9 : N9.length ≤ N.length + 400 * (k + 1) := by have := LK2.out; rw [← HE9.out.2] at this; omega
            have E9 := Lib.hid E9
            have W9 := Lib.hid W9
            have TT := Lib.hid TT
            have AA := Lib.hid AA
            have S9 := Lib.hid S9
            clear T9 A9 R9
            go_roundw
            case rel =>
              exact ⟨k + 1, ρ9, M9, v9, N9, by omega, by go_num, W9, TT, AA, Lib.hid (by rw [EK2.out]; exact E9.out), S9, Lib.hid (by rw [HE9.out.1]; exact PK2.out), Lib.hid (by rw [HE9.out.1]; exact QK2.out), hN9⟩
            case measure => simp [intOf]; omega
          · have hkk : k = pl := by omega
            subst hkk
            have HTA : Hid (l.take k = l) := Lib.hid (List.take_of_length_le (by rw [HPLL.out]; exact Nat.le_refl _))
            go_wp2
            go_meet
            exact ⟨trivial, ρk, Mk, vk, Nk, WK, TK, AK, Lib.hid (by rw [if_pos HK3.out, EK.out, HTA.out]), SK, PK, Lib.hid (by have := HN.out; omega)⟩
      · have e1 : (x.core.kind == 3) = false := beq_eq_false_iff_ne.2 hk3
        have HK3 := Lib.hid hk3
        clear hk3
        go_wp2
        go_meet
        exact ⟨trivial, ρ, M, v, N, W1, Lib.hid (Turn.refl _ _), Lib.hid (fun _ _ => rfl), Lib.hid (by rw [if_neg HK3.out]), HS, PIV, Lib.hid (by have := HN.out; omega)⟩
    case rest =>
      obtain ⟨-, ρ1, M1, v1, N1, W2, T2, A2, E2, S2, PI2, HN2⟩ := hcut
      rw [← E2.out] at HPUT
      have IR1 : Hid (∀ b off, pa = some ⟨b, off, none⟩ → 0 < pl → ρ1 b = 0) := Lib.hid (fun b off e hp => by
        rw [A2.out b (by
          rcases IR.out.row.cells with e0 | ⟨b2, off2, ha2, hlt, _⟩
          · omega
          · rw [e] at ha2
            injection ha2 with ha2
            injection ha2 with e1
            omega)]
        exact IR0.out b off e hp)
      clear E2 HLP HX0 p0 x0 zw
      go_wp2
      go_loopw [54] (fun i wr => ∃ (k : Nat) (ρk : Nat → Nat) (Mk : List NodeD) (vk : Value) (Nk : List NoteD), k ≤ pl ∧ i = .int .i64 k ∧ Hid (Wk ρk wr pw g cap len m Mk vk Nk) ∧ Hid (Turn ρ wd wr) ∧ Hid (∀ k, k < wd.heap.size → ρk k = ρ k) ∧ Hid ((coreL Mk, Nk) = ((l.take k).map Int.toNat).foldl (inS p bz) (coreL M1, N1)) ∧ Hid (smallF Mk) ∧ Hid (PutInv m (coreL Mk) p (l.drop k) bz) ∧ Nk.length ≤ 72000000 + 1200 * k) (fun i _ => pl - (intOf i).toNat)
      case atStart => exact ⟨0, ρ1, M1, v1, N1, Nat.zero_le _, rfl, W2, T2, A2, Lib.hid rfl, S2, PI2, HN2.out⟩
      case round =>
        clear W2 T2 A2 S2 PI2 HN2
        obtain ⟨k, ρk, Mk, vk, Nk, hk, rfl, WK, TK, AK, EK, SK, PK, hNk⟩ := hrel
        have zw := (TK.out.cell hwd HRB.out).trans ZWD.out
        by_cases hlt : k < pl
        · obtain ⟨bp, op, z, hpa, hbp, hz, hcz, hin⟩ := (TK.out.introw IR.out IR0.out).get hlt
          obtain ⟨q, rfl, hql⟩ := HQ.out k z hz
          have hdr : l.drop k = (q : Int) :: l.drop (k + 1) := by
            obtain ⟨h1, h2⟩ := List.getElem?_eq_some_iff.1 hz
            rw [List.drop_eq_getElem_cons h1, h2]
          have PKq : PutInv m (coreL Mk) p ((q : Int) :: l.drop (k + 1)) bz := by rw [← hdr]; exact PK.out
          have CO := Lib.hid (mpart_any wr WK.out SK.out q p bz (l.drop (k + 1)) PKq (by omega))
          have EK2 : Hid (((l.take (k + 1)).map Int.toNat).foldl (inS p bz) (coreL M1, N1) = inS p bz (coreL Mk, Nk) q) := Lib.hid (by
            rw [List.take_add_one, hz, List.map_append, List.foldl_append, ← EK.out]
            rfl)
          have PK2 : Hid (PutInv m (inS p bz (coreL Mk, Nk) q).1 p (l.drop (k + 1)) bz) := Lib.hid (PutInv.ins (S := (coreL Mk, Nk)) PKq)
          have LK2 : Hid ((inS p bz (coreL Mk, Nk) q).2.length ≤ Nk.length + 1200) := Lib.hid (inS_len (S := (coreL Mk, Nk)) PKq)
          subst hpa
          have hk64 : (k : Int) + 1 ≤ 9223372036854775807 := by omega
          clear hz hin hdr PKq
          go_wp2_with (go_at_call 56; (with_reducible refine CO.out.mono ?_); rintro e w9 ⟨rfl, ρ9, M9, v9, N9, W9, T9, A9, E9, S9⟩)
          obtain ⟨TT, AA⟩ := chain_turn TK.out AK.out T9 A9
          have HE9 : Hid (coreL M9 = (inS p bz (coreL Mk, Nk) q).1 ∧ N9 = (inS p bz (coreL Mk, Nk) q).2) := Lib.hid ⟨congrArg Prod.fst E9, congrArg Prod.snd E9⟩
          have hN9 : N9.length ≤ 72000000 + 1200 * (k + 1) := by have := LK2.out; rw [← HE9.out.2] at this; omega
          have E9 := Lib.hid E9
          have W9 := Lib.hid W9
          have TT := Lib.hid TT
          have AA := Lib.hid AA
          have S9 := Lib.hid S9
          clear T9 A9
          go_roundw
          case rel => exact ⟨k + 1, ρ9, M9, v9, N9, by omega, by go_num, W9, TT, AA, Lib.hid (by rw [EK2.out]; exact E9.out), S9, Lib.hid (by rw [HE9.out.1]; exact PK2.out), hN9⟩
          case measure => simp [intOf]; omega
        · have hkk : k = pl := by omega
          subst hkk
          have HTA : Hid (l.take k = l) := Lib.hid (List.take_of_length_le (by rw [HPLL.out]; exact Nat.le_refl _))
          obtain ⟨TT, AA⟩ := chain_turn (Turn.of_below (ρ := ρ) (HBX.out.trans (HB1.out.mono HBX.out.size))) (fun _ _ => rfl) TK.out AK.out
          have TT := Lib.hid TT
          have AA := Lib.hid AA
          go_wp2
          refine bodyPost_ret (v := .tuple #[]) (by simp [results, Tryz.results27]) rfl ⟨rfl, ρk, Mk, vk, Nk, WK.out, TT.out, AA.out, by rw [HPUT.out, EK.out, HTA.out], SK.out, PK.out.right⟩
end
end Go.Proofs.YtkfmengdffpcnaaGreatDoor
