/- Texts joined in build order: MovePutMath MovePut Ref3Ask Ref3Order. -/
import Derived.Test.YtkgbgnmmgmnnlaaGreatDoorA32
import Derived.Test.YtkgbgnmmgmnnlaaGreatDoorA25
import Derived.Test.YtkgbgnmmgmnnlaaGreatDoorA22
import Derived.Test.YtkgbgnmmgmnnlaaGreatDoorA17
import Derived.Test.YtkgbgnmmgmnnlaaGreatDoorA04
import Derived.Test.YtkgbgnmmgmnnlaaGreatDoorA12
import Derived.Test.YtkgbgnmmgmnnlaaGreatDoorA15
import Derived.Test.YtkgbgnmmgmnnlaaGreatDoorA13
import Derived.Deep.RegionHeld3
import Derived.Deep.DrawnRows
namespace Go.Proofs.YtkgbgnmmgmnnlaaGreatDoor
open Go.RowKit
structure PutInv (m : Int) (F : List Core) (p : Nat) (l : List Int) (b : Int) : Prop where
  right : rightF m F = true
  lt : p < F.length
  kp : kindK F p ≠ 2
  once : l.Nodup
  ls : ∀ z ∈ l, ∃ q : Nat, z = q ∧ q < F.length ∧ (kindK F q = 1 ∨ kindK F q = 2)
  over : ∀ q : Nat, (q : Int) ∈ l → ¬ holdsT (parS F) q p
  root : kindK F p = 0 → (kidsK F p).length + l.length ≤ 1 ∧ ∀ k ∈ l, kindK F k = 1
  before : b = -1 ∨ (b ∈ kidsK F p ∧ b ∉ l)
section
variable {m : Int} {F G : List Core} {p : Nat} {l r : List Int} {b : Int}
theorem PutOk.inv {n : Nat} {c : Int} {cp : Core} (h : PutOk m F n p c l cp) : PutInv m F p l (beforeZ m F n p c) := by
  refine ⟨h.right, (List.getElem?_eq_some_iff.1 h.hp).1, by rw [kindK_at h.hp]; exact h.kp, h.once, fun z hz => ?_, h.over, fun e => ?_, ?_⟩
  · obtain ⟨q, c1, h1, h2, h3⟩ := h.ls z hz
    exact ⟨q, h1, (List.getElem?_eq_some_iff.1 h2).1, by rw [kindK_at h2]; exact h3⟩
  · rw [kidsK_get h.hp]
    exact h.root (by rw [kindK_at h.hp] at e; exact e)
  · rcases h.before with e | e
    · exact .inl e
    · rw [List.mem_filter] at e
      rw [kidsK_get h.hp]
      exact .inr ⟨e.1, by simpa using e.2⟩
theorem kidsK_edit {P : Nat → Core → Int} {K : Nat → Core → List Int} {D : Nat → Core → Int} (h : Edit F G P K D) {c : Core} (hc : F[p]? = some c) : kidsK G p = K p c := kidsK_get (h.at_ p c hc)
theorem PutInv.out (h : PutInv m F p l b) {q : Nat} (hq : (q : Int) ∈ l) (hp : parentK F q ≠ -1) : PutInv m (mvOut F q) p l b := by
  obtain ⟨q', e, hql, _⟩ := h.ls _ hq
  obtain rfl : q = q' := by omega
  have hx : F[q]? = some F[q] := List.getElem?_eq_getElem hql
  rw [parentK_at hx] at hp
  obtain ⟨a, ha1, ha2, ho⟩ := mvOut_out h.right hx hp
  obtain ⟨cp, hc⟩ : ∃ cp, F[p]? = some cp := ⟨_, List.getElem?_eq_getElem h.lt⟩
  have hk : kidsK (mvOut F q) p = if p = a then cp.kids.filter (fun z => z != (q : Int)) else cp.kids := kidsK_edit ho.ed hc
  have hk0 : kidsK F p = cp.kids := kidsK_get hc
  refine ⟨ho.rightG, by rw [ho.ed.len]; exact h.lt, by rw [ho.ed.kindK]; exact h.kp, h.once, fun z hz => ?_, fun t ht hh => ?_, fun e => ?_, ?_⟩
  · obtain ⟨t, h1, h2, h3⟩ := h.ls z hz
    exact ⟨t, h1, by rw [ho.ed.len]; exact h2, by rw [ho.ed.kindK]; exact h3⟩
  · obtain ⟨t', e, htl, _⟩ := h.ls _ ht
    obtain rfl : t = t' := by omega
    exact h.over t ht ((ho.over htl h.lt).1 hh).1
  · rw [ho.ed.kindK] at e
    obtain ⟨h1, h2⟩ := h.root e
    refine ⟨?_, fun k hk => by rw [ho.ed.kindK]; exact h2 k hk⟩
    rw [hk]
    rw [hk0] at h1
    split
    · exact Nat.le_trans (Nat.add_le_add_right (List.length_filter_le _ _) _) h1
    · exact h1
  · rcases h.before with e | ⟨h1, h2⟩
    · exact .inl e
    · refine .inr ⟨?_, h2⟩
      rw [hk]
      rw [hk0] at h1
      split
      · rw [List.mem_filter]
        exact ⟨h1, bne_iff_ne.2 (fun e => h2 (by rw [e]; exact hq))⟩
      · exact h1
theorem PutInv.outs {S : St} (h : PutInv m S.1 p l b) {q : Nat} (hq : (q : Int) ∈ l) : PutInv m (outS S q).1 p l b := by
  unfold outS
  split
  · exact h
  · next hp => exact h.out hq hp
theorem parS_same {F G : List Core} (h : ∀ j : Nat, nextUp G (j : Int) = nextUp F j) : parS G = parS F := by
  funext j
  unfold parS
  rw [h j]
theorem PutInv.doc (h : PutInv m F p l b) {q : Nat} (hq : (q : Int) ∈ l) (hp : parentK F q = -1) {d : Int} (hd : ∃ c, getC F d = some c ∧ c.kind = 0) : PutInv m (mvDoc F q d) p l b := by
  obtain ⟨q', e, hql, hqk⟩ := h.ls _ hq
  obtain rfl : q = q' := by omega
  have T := taken_doc h.right hql hp hqk hd
  obtain ⟨cp, hc⟩ : ∃ cp, F[p]? = some cp := ⟨_, List.getElem?_eq_getElem h.lt⟩
  have hk : kidsK (mvDoc F q d) p = kidsK F p := by rw [kidsK_edit T.ed hc, kidsK_get hc]
  have hpar := parS_same T.next
  exact ⟨T.rightG, by rw [T.ed.len]; exact h.lt, by rw [T.ed.kindK]; exact h.kp, h.once, fun z hz => by
    obtain ⟨t, h1, h2, h3⟩ := h.ls z hz
    exact ⟨t, h1, by rw [T.ed.len]; exact h2, by rw [T.ed.kindK]; exact h3⟩, fun t ht hh => h.over t ht (by rw [hpar] at hh; exact hh), fun e => by
    rw [T.ed.kindK] at e
    rw [hk]
    obtain ⟨h1, h2⟩ := h.root e
    exact ⟨h1, fun k hk => by rw [T.ed.kindK]; exact h2 k hk⟩, by rw [hk]; exact h.before⟩
theorem doc_is (h : rightF m F = true) {p : Nat} (hp : p < F.length) : ∃ c, getC F (docK F p) = some c ∧ c.kind = 0 := by
  obtain ⟨cp, hc⟩ : ∃ cp, F[p]? = some cp := ⟨_, List.getElem?_eq_getElem hp⟩
  rw [docK_at hc]
  exact (right_node h hc).doc
structure Overs (m : Int) (S : St) (q p : Nat) (l : List Int) (b d : Int) (T : St) : Prop where
  inv : PutInv m T.1 p l b
  len : T.1.length = S.1.length
  par : parentK T.1 q = -1
  docq : docK T.1 q = d
  docp : docK T.1 p = docK S.1 p
theorem PutInv.overs {S : St} (h : PutInv m S.1 p l b) {q : Nat} (hq : (q : Int) ∈ l) {d : Int} (hd : ∃ c, getC S.1 d = some c ∧ c.kind = 0) : Overs m S q p l b d (overS S q d) := by
  obtain ⟨q', e, hql, hqk⟩ := h.ls _ hq
  obtain rfl : q = q' := by omega
  obtain ⟨hr1, ⟨P, K, hed⟩, hp1⟩ := outS_facts (S := S) h.right hql
  have h1 := h.outs hq
  obtain ⟨xp, hx⟩ : ∃ xp, S.1[p]? = some xp := ⟨_, List.getElem?_eq_getElem h.lt⟩
  have hxq : S.1[q]? = some S.1[q] := List.getElem?_eq_getElem hql
  have hdp : docK (outS S q).1 p = docK S.1 p := by rw [docK_at (hed.at_ p _ hx), docK_at hx]; rfl
  unfold overS
  dsimp only
  split
  · next e => exact ⟨h1, hed.len, hp1, e, hdp⟩
  · next e =>
    have hql1 : q < (outS S q).1.length := by rw [hed.len]; exact hql
    have hpl1 : p < (outS S q).1.length := by rw [hed.len]; exact h.lt
    have hed2 : Edit (outS S q).1 (mvDoc (outS S q).1 q d) (fun _ c => c.parent) (fun _ c => c.kids) (fun j c => if (j : Int) ∈ allI (outS S q).1 q then d else c.doc) := edF_edit (outS S q).1 (fun _ c => c.parent) (fun _ c => c.kids) (fun j c => if (j : Int) ∈ allI (outS S q).1 q then d else c.doc)
    obtain ⟨xp1, hx1⟩ : ∃ xp, (outS S q).1[p]? = some xp := ⟨_, List.getElem?_eq_getElem hpl1⟩
    have hxq1 : (outS S q).1[q]? = some (outS S q).1[q] := List.getElem?_eq_getElem hql1
    refine ⟨h1.doc hq hp1 (docIs_edit hed hd), hed2.len.trans hed.len, ?_, ?_, ?_⟩
    · show parentK (mvDoc (outS S q).1 q d) q = -1
      rw [parentK_at (hed2.at_ q _ hxq1)]
      rw [parentK_at hxq1] at hp1
      exact hp1
    · show docK (mvDoc (outS S q).1 q d) q = d
      rw [docK_at (hed2.at_ q _ hxq1)]
      exact if_pos ((mem_all h1.right hql1 hql1).2 (holds_refl q))
    · show docK (mvDoc (outS S q).1 q d) p = docK S.1 p
      rw [docK_at (hed2.at_ p _ hx1), ← hdp, docK_at hx1]
      exact if_neg (fun hh => h1.over q hq ((mem_all h1.right hql1 hpl1).1 hh))
theorem PutInv.put {q : Nat} (h : PutInv m F p ((q : Int) :: r) b) (hp : parentK F q = -1) (hd : docK F q = docK F p) : PutInv m (mvIn F q p b) p r b := by
  have hq : (q : Int) ∈ (q : Int) :: r := List.mem_cons_self
  obtain ⟨q', e, hql, hqk⟩ := h.ls _ hq
  obtain rfl : q = q' := by omega
  have hx : F[q]? = some F[q] := List.getElem?_eq_getElem hql
  obtain ⟨cp, hc⟩ : ∃ cp, F[p]? = some cp := ⟨_, List.getElem?_eq_getElem h.lt⟩
  have hov := h.over q hq
  have hqp : q ≠ p := fun e => hov (by rw [e]; exact holds_refl p)
  have hk0 : kidsK F p = cp.kids := kidsK_get hc
  have notin : ∀ (j : Nat) (c : Core), F[j]? = some c → (q : Int) ∉ c.kids := fun j c hj hm => by
    obtain ⟨c', h1, _, h3, _⟩ := (right_node h.right hj).kids _ hm
    rw [getC_nat, hx] at h1
    rw [parentK_at hx] at hp
    rw [← Option.some.inj h1, hp] at h3
    omega
  have hb : b = -1 ∨ b ∈ cp.kids := by
    rcases h.before with e | ⟨h1, _⟩
    · exact .inl e
    · rw [hk0] at h1
      exact .inr h1
  have hfil : ∀ (j : Nat) (c : Core), F[j]? = some c → c.kids.filter (fun z => !([(q : Int)] : List Int).contains z) = c.kids := fun j c hj => List.filter_eq_self.2 (fun z hz => by
    have : z ≠ (q : Int) := fun e => notin j c hj (by rw [← e]; exact hz)
    simpa using this)
  have hedi := edF_edit F (fun j c => if j = q then (p : Int) else c.parent) (fun j c => if j = p then insB c.kids b q else c.kids) (fun _ c => c.doc)
  have hIn : PutIn m F (mvIn F q p b) [(q : Int)] p cp (cp.kids.take (insAt cp.kids b)) (cp.kids.drop (insAt cp.kids b)) (fun j => decide ((j : Int) ∈ allI F q)) := by
    refine ⟨h.right, hc, by rw [← kindK_at hc]; exact h.kp, by simp, fun z hz => ?_, fun t ht => ?_, ?_, fun e => ?_, fun j hj => ?_, hedi.cong (fun j c hj => ⟨?_, ?_, ?_⟩)⟩
    · rw [List.mem_singleton] at hz
      exact ⟨q, F[q], hz, hx, by rw [← kindK_at hx]; exact hqk⟩
    · have : t = q := Int.ofNat_inj.1 (by simpa using ht)
      rw [this]
      exact hov
    · rw [List.take_append_drop]
      exact (hfil p _ hc).symm
    · have h1 := h.root (by rw [kindK_at hc]; exact e)
      rw [hk0, List.length_cons] at h1
      have hnil : cp.kids = [] := List.eq_nil_of_length_eq_zero (by omega)
      rw [hnil]
      simp only [List.take_nil, List.drop_nil, List.nil_append, List.append_nil, List.length_singleton]
      exact ⟨Nat.le_refl _, fun k hk => by rw [List.mem_singleton] at hk; rw [hk]; exact h1.2 _ hq⟩
    · rw [decide_eq_true_iff, mem_all h.right hql hj]
      constructor
      · exact fun hh => ⟨q, by simp, hh⟩
      · rintro ⟨t, ht, hh⟩
        have : t = q := Int.ofNat_inj.1 (by simpa using ht)
        rw [← this]
        exact hh
    · by_cases e : j = q
      · subst e; simp
      · rw [if_neg e, if_neg (by simpa using (fun h2 => e (by omega) : (j : Int) ≠ (q : Int)))]
    · by_cases e : j = p
      · subst e
        rw [hc] at hj
        rw [if_pos rfl, if_pos rfl, ← Option.some.inj hj, ← insB_eq]
        simp
      · rw [if_neg e, if_neg e, hfil j c hj]
    · by_cases e : (j : Int) ∈ allI F q
      · have hjl := (List.getElem?_eq_some_iff.1 hj).1
        have h1 := doc_all h.right hql e hjl
        rw [hd, docK_at hj, docK_at hc] at h1
        simp only [decide_eq_true e, if_true]
        exact h1
      · simp only [decide_eq_false e, Bool.false_eq_true, if_false]
  have hed : Edit F (mvIn F q p b) (fun j c => if j = q then (p : Int) else c.parent) (fun j c => if j = p then insB c.kids b q else c.kids) (fun _ c => c.doc) := hedi
  have hkG : kidsK (mvIn F q p b) p = insB cp.kids b q := by rw [kidsK_edit hed hc]; exact if_pos rfl
  have hup : ∀ (k c a : Nat), c < F.length → ¬ holdsT (parS F) q c → upN (parS (mvIn F q p b)) k c = some a → upN (parS F) k c = some a := by
    intro k
    induction k with
    | zero => exact fun c a _ _ hu => hu
    | succ k ih =>
      intro c a hcl hn hu
      unfold upN at hu ⊢
      have hcq : c ≠ q := fun e => hn (by rw [e]; exact holds_refl q)
      have hpc : parS (mvIn F q p b) c = parS F c := by
        unfold parS
        have h1 := hIn.next hcl
        rw [if_neg (by simpa using (fun h2 => hcq (by omega) : (c : Int) ≠ (q : Int)))] at h1
        rw [h1]
      rw [hpc] at hu
      cases hq2 : parS F c with
      | none => rw [hq2] at hu; cases hu
      | some t =>
        rw [hq2] at hu
        exact ih t a (parS_next h.right hcl hq2).2 (fun hh => hn (holds_trans hh (holds_par hq2))) hu
  refine ⟨hIn.rightG, by rw [hed.len]; exact h.lt, by rw [hed.kindK]; exact h.kp, (List.nodup_cons.1 h.once).2, fun z hz => ?_, fun t ht hh => ?_, fun e => ?_, ?_⟩
  · obtain ⟨t, h1, h2, h3⟩ := h.ls z (List.mem_cons_of_mem _ hz)
    exact ⟨t, h1, by rw [hed.len]; exact h2, by rw [hed.kindK]; exact h3⟩
  · obtain ⟨k, hk⟩ := hh
    exact h.over t (List.mem_cons_of_mem _ ht) ⟨k, hup k p t h.lt hov hk⟩
  · rw [hed.kindK] at e
    obtain ⟨h1, h2⟩ := h.root e
    refine ⟨?_, fun k hk => by rw [hed.kindK]; exact h2 k (List.mem_cons_of_mem _ hk)⟩
    rw [hkG, ← insB_eq]
    rw [hk0, List.length_cons] at h1
    simp only [List.length_append, List.length_cons, List.length_take, List.length_drop]
    omega
  · rcases h.before with e | ⟨h1, h2⟩
    · exact .inl e
    · refine .inr ⟨?_, fun hh => h2 (List.mem_cons_of_mem _ hh)⟩
      rw [hkG, ← insB_eq]
      rw [hk0, ← List.take_append_drop (insAt cp.kids b) cp.kids] at h1
      rcases List.mem_append.1 h1 with h1 | h1
      · exact List.mem_append.2 (.inl h1)
      · exact List.mem_append.2 (.inr (List.mem_cons_of_mem _ h1))
theorem PutInv.ins {S : St} {q : Nat} (h : PutInv m S.1 p ((q : Int) :: r) b) : PutInv m (inS p b S q).1 p r b := by
  have hO := h.overs List.mem_cons_self (doc_is h.right h.lt)
  exact hO.inv.put hO.par (hO.docq.trans hO.docp.symm)
end
end Go.Proofs.YtkgbgnmmgmnnlaaGreatDoor
namespace Go.Proofs.YtkgbgnmmgmnnlaaGreatDoor
open Go.RowKit
abbrev wkB (b : Nat) : Obj := .cells #[.pointer (some ⟨b, 0, none⟩)] 69
abbrev wkZ : Obj := .cells #[.pointer none] 69
theorem cell_box {W : World} {v : Value} {t : TypeId} : (W.alloc (.cells #[v] t)).cell? ⟨W.heap.size, 0, none⟩ = some v := by
  have := cell_of_row (W.alloc (.cells #[v] t)) W.heap.size 0 #[v] t (0, 0) (heap_alloc_new W _)
  rw [this]
  rfl
section
variable {m : Int}
theorem outS_len {S : St} (h : rightF m S.1 = true) {n : Nat} (hn : n < S.1.length) : (outS S n).2.length ≤ S.2.length + 400 := by
  unfold outS
  split
  · omega
  · have := tellN_len h hn (note 2)
    show (if connF S.1 n then S.2 ++ tellN S.1 n (note 2) else S.2).length ≤ _
    split
    · rw [List.length_append]; omega
    · omega
theorem overS_len {S : St} (h : rightF m S.1 = true) {n : Nat} (hn : n < S.1.length) (d : Int) : (overS S n d).2.length ≤ S.2.length + 800 := by
  have h1 := outS_len h hn
  obtain ⟨hr, ⟨P, K, hed⟩, _⟩ := outS_facts h hn
  unfold overS
  dsimp only
  split
  · omega
  · rw [List.length_append]
    have := tellN_len hr (n := n) (by rw [hed.len]; exact hn) ⟨3, 0, docK (outS S n).1 n, d, ⟨#[]⟩, false, false, ⟨#[]⟩, ⟨#[]⟩⟩
    omega
theorem parentK_out {F : List Core} {q z : Nat} (hz : z < F.length) (hne : z ≠ q) : parentK (mvOut F q) z = parentK F z := by
  have hc : F[z]? = some F[z] := List.getElem?_eq_getElem hz
  have hed : Edit F (mvOut F q) (fun j c => if j = q then -1 else c.parent) (fun j c => if (j : Int) = parentK F q then c.kids.filter (fun z => z != (q : Int)) else c.kids) (fun _ c => c.doc) := edF_edit _ _ _ _
  rw [parentK_at (hed.at_ z _ hc), parentK_at hc]
  exact if_neg hne
end
section
variable {ρ : Nat → Nat} {pw g cap len : Nat} {m : Int} {M : List NodeD} {v : Value} {N : List NoteD}
theorem chain_turn {ρ ρk ρ' : Nat → Nat} {w wr w' : World} (T : Turn ρ w wr) (A : ∀ k, k < w.heap.size → ρk k = ρ k) (T' : Turn ρk wr w') (A' : ∀ k, k < wr.heap.size → ρ' k = ρk k) : Turn ρ w w' ∧ ∀ k, k < w.heap.size → ρ' k = ρ k :=
  ⟨T.trans A T', fun k hk => (A' k (Nat.lt_of_lt_of_le hk T.size)).trans (A k hk)⟩
set_option maxHeartbeats 16000000 in
set_option maxRecDepth 100000 in
theorem mpart_any (w : World) (h : Wk ρ w pw g cap len m M v N) (hs : smallF M) (q p : Nat) (bz : Int) (r : List Int) (PI : PutInv m (coreL M) p ((q : Int) :: r) bz) (hN : N.length ≤ 80000000) :
    Calls Tryz.prog 97 #[ptrV pw, .int .i64 q, .int .i64 p, .int .i64 bz] w (WkPost ρ w pw g cap len m fun M' N' => (coreL M', N') = inS p bz (coreL M, N) q ∧ smallF M') := by
  have hmem : (q : Int) ∈ (q : Int) :: r := List.mem_cons_self
  have HL : (coreL M).length = len := by rw [coreL_len, h.hlen]
  obtain ⟨q', hqq, hql0, hkq⟩ := PI.ls _ hmem
  obtain rfl : q = q' := by omega
  have hql : q < len := by rw [← HL]; exact hql0
  have hpl : p < len := by rw [← HL]; exact PI.lt
  have hl1k : len ≤ 1000 := by rw [← h.hlen]; exact hs.1
  obtain ⟨y, hy⟩ : ∃ y, M[p]? = some y := ⟨_, List.getElem?_eq_getElem (by rw [h.hlen]; exact hpl)⟩
  have hdy : docK (coreL M) p = y.core.doc := docK_at (coreL_get hy)
  have hdoc := doc_is PI.right PI.lt
  rw [hdy] at hdoc
  have OV := Lib.hid (PI.overs (S := (coreL M, N)) hmem hdoc)
  have hqp : q ≠ p := fun e => PI.over q hmem (by rw [e]; exact holds_refl p)
  have CO := Lib.hid (mover_any w h PI.right hs q hql hkq y.core.doc (h.fld y (List.mem_of_getElem? hy)).doc hdoc (by omega))
  have PK2 : Hid (rightF m (inS p bz (coreL M, N) q).1 = true) := Lib.hid (PutInv.ins (S := (coreL M, N)) PI).right
  have LK2 : Hid ((overS (coreL M, N) q y.core.doc).2.length ≤ N.length + 800) := Lib.hid (overS_len (S := (coreL M, N)) PI.right hql0 _)
  have HIN : Hid (inS p bz (coreL M, N) q = (mvIn (overS (coreL M, N) q y.core.doc).1 q p bz, if connF (mvIn (overS (coreL M, N) q y.core.doc).1 q p bz) q then (overS (coreL M, N) q y.core.doc).2 ++ tellN (mvIn (overS (coreL M, N) q y.core.doc).1 q p bz) q (note 1) else (overS (coreL M, N) q y.core.doc).2)) := Lib.hid (by
    unfold inS
    simp only [hdy])
  have p0 := h.c0
  have y9 := (h.at_ hy).c9
  have hl64 : (len : Int) ≤ 9223372036854775807 := by omega
  have HN := Lib.hid hN
  clear PI hy hdy hdoc hqq hkq hmem h hs hN hql0 HL
  go_enter Tryz.func97, Tryz.ntmps97
  go_upto_if 27 with (first
    | (go_at_call 119; (with_reducible refine CO.out.mono ?_); rintro e w3 ⟨rfl, ρ3, M3, v3, N3, W3, T3, A3, E3, S3, R3⟩; have W3 := Lib.hid W3; have T3 := Lib.hid T3; have A3 := Lib.hid A3; have E3 := Lib.hid E3; have S3 := Lib.hid S3)
    | (go_at_call 120; (refine (mstand_any w3 W3.out S3.out q p hql hpl hqp bz (by have h1 := OV.out.inv.before; rw [← E3.out] at h1; exact h1.imp id And.left)).mono ?_); rintro e w4 ⟨rfl, ρ4, M4, v4, N4, W4, T4, A4, E4, rfl⟩; have W4 := Lib.hid W4; have T4 := Lib.hid T4; have A4 := Lib.hid A4; have HM4 : Hid (coreL M4 = mvIn (overS (coreL M, N) q y.core.doc).1 q p bz) := (Lib.hid (by rw [E4, ← E3.out])); have R4 : Hid (rightF m (coreL M4) = true) := (Lib.hid (by have h1 := PK2.out; rw [HIN.out] at h1; rw [HM4.out]; exact h1)); have S4 : Hid (smallF M4) := (Lib.hid (small_edit S3.out (by rw [E4]; exact edF_edit _ _ _ _) R4.out)); clear E4)
    | (go_at_call 87; (refine (mconn_any w4 W4.out R4.out q hql).mono ?_); rintro e w5 ⟨rfl, hb5⟩; have W5 := Lib.hid (W4.out.keep hb5); have HB5 := Lib.hid hb5; clear hb5))
  have HN4 : Hid (N4 = (overS (coreL M, N) q y.core.doc).2) := Lib.hid (congrArg Prod.snd E3.out)
  have hN4 : N4.length ≤ 80000800 := by have := LK2.out; rw [← HN4.out] at this; have := HN.out; omega
  obtain ⟨T6, A6⟩ := chain_turn T3.out A3.out T4.out A4.out
  have T7 := T6.keep HB5.out
  have T7 := Lib.hid T7
  have A6 := Lib.hid A6
  obtain ⟨cb, hcb⟩ : ∃ cb, connF (coreL M4) q = cb := ⟨_, rfl⟩
  rw [hcb]
  have HCB := Lib.hid hcb
  have HRES : Hid (inS p bz (coreL M, N) q = (coreL M4, if cb then N4 ++ tellN (coreL M4) q (note 1) else N4)) := Lib.hid (by
    rw [HIN.out, ← HM4.out, ← HN4.out, HCB.out])
  clear hcb T6
  cases cb with
  | false =>
    go_wp2
    refine bodyPost_ret (v := .tuple #[]) (by simp [results, Tryz.results97]) rfl ⟨rfl, ρ4, M4, v4, N4, W5.out, T7.out, A6.out, by rw [HRES.out]; rfl, S4.out⟩
  | true =>
    have CT := Lib.hid (mtell_any w5 W5.out R4.out S4.out q hql (note 1) (noteOk_note 1 ⟨by decide, by decide⟩) (by omega))
    go_wp2_with (go_at_call 89; (with_reducible refine CT.out.mono ?_); rintro e w9 ⟨rfl, ρ9, M9, v9, N9, W9, T9, A9, rfl, rfl⟩)
    obtain ⟨T10, A10⟩ := chain_turn T7.out A6.out T9 A9
    refine bodyPost_ret (v := .tuple #[]) (by simp [results, Tryz.results97]) rfl ⟨rfl, ρ9, M9, v9, _, W9, T10, A10, by rw [HRES.out]; rfl, S4.out⟩
theorem inS_len {S : St} {p q : Nat} {r : List Int} {b : Int} (h : PutInv m S.1 p ((q : Int) :: r) b) : (inS p b S q).2.length ≤ S.2.length + 1200 := by
  obtain ⟨q', e, hq, hk⟩ := h.ls _ List.mem_cons_self
  obtain rfl : q = q' := by omega
  have h1 := overS_len (S := S) h.right hq (docK S.1 p)
  have hG := h.ins.right
  have hl : (overS S q (docK S.1 p)).1.length = S.1.length := (h.overs List.mem_cons_self (doc_is h.right h.lt)).len
  unfold inS at hG ⊢
  dsimp only at hG ⊢
  split
  · rw [List.length_append]
    have := tellN_len hG (n := q) (by show q < (mvIn (overS S q (docK S.1 p)).1 q p b).length; rw [show (mvIn (overS S q (docK S.1 p)).1 q p b).length = (overS S q (docK S.1 p)).1.length from (edF_edit _ _ _ _).len, hl]; exact hq) (note 1)
    omega
  · omega
set_option maxHeartbeats 16000000 in
set_option maxRecDepth 100000 in
theorem mput_any (w : World) (h : Wk ρ w pw g cap len m M v N) (hm : In64 m) (hs : smallF M) (n p : Nat) (c : Int) (hc64 : In64 c) (hn : n < len) (hpl : p < len) (hmay : mayZ m (coreL M) n p c = 0) (hN : N.length ≤ 70000000) :
    Calls Tryz.prog 61 #[workV pw, .int .i64 n, .int .i64 p, .int .i64 c] w (WkPost ρ w pw g cap len m fun M' N' => (coreL M', N') = putS (coreL M, N) n p (beforeZ m (coreL M) n p c) ∧ smallF M' ∧ rightF m (coreL M') = true) := by
  have HL : Hid ((coreL M).length = len) := Lib.hid (by rw [coreL_len, h.hlen])
  have hl1k : len ≤ 1000 := by rw [← h.hlen]; exact hs.1
  obtain ⟨cp, hcp⟩ : ∃ cp, (coreL M)[p]? = some cp := ⟨_, List.getElem?_eq_getElem (by rw [HL.out]; exact hpl)⟩
  have PO := PutOk.of hmay hcp
  have hr := PO.right
  have PI := PO.inv
  obtain ⟨x, hx⟩ : ∃ x, M[n]? = some x := ⟨_, List.getElem?_eq_getElem (by rw [h.hlen]; exact hn)⟩
  obtain ⟨l, hl⟩ : ∃ l, partsZ (coreL M) n = l := ⟨_, rfl⟩
  obtain ⟨bz, hbz⟩ : ∃ bz, beforeZ m (coreL M) n p c = bz := ⟨_, rfl⟩
  rw [hbz, hl] at PI
  have CB : Hid (∀ W, NodeRow W (some ⟨g, 0, none⟩) len cap M → Calls Tryz.prog 95 #[forV (some ⟨g, 0, none⟩) len cap m, .int .i64 n, .int .i64 p, .int .i64 c] W fun e w' => e = .returned (.int .i64 bz) ∧ Below W.heap.size W w') := Lib.hid (fun W h1 => by
    rw [← hbz]
    exact vbefore_any _ len cap m M n p c W h1 hm (in64_nat (by omega)) (in64_nat (by omega)) hc64 hs)
  have CP : Hid (∀ W, NodeRow W (some ⟨g, 0, none⟩) len cap M → Calls Tryz.prog 96 #[forV (some ⟨g, 0, none⟩) len cap m, .int .i64 n] W (OrdNew W l)) := Lib.hid (fun W h1 => by
    rw [← hl]
    exact vpartsNew_any _ len cap m M n W h1 (in64_nat (by omega)) hs)
  have HX0 : Hid (kindK (coreL M) n = x.core.kind) := Lib.hid (kindK_at (coreL_get hx))
  have HPUT : Hid (putS (coreL M, N) n p bz = (l.map Int.toNat).foldl (inS p bz) (if x.core.kind = 3 then (l.map Int.toNat).foldl outS (coreL M, N) else (coreL M, N))) := Lib.hid (by
    unfold putS
    simp only [hl, HX0.out])
  have HLP : Hid (x.core.kind = 3 → ∀ z ∈ l, parentK (coreL M) z = n) := Lib.hid (fun e z hz => by
    rw [← hl, parts_at (coreL_get hx), if_pos e] at hz
    obtain ⟨c1, h1, _, h3, _⟩ := (right_node hr (coreL_get hx)).kids z hz
    unfold parentK
    rw [h1]
    exact h3)
  have PIV := Lib.hid PI
  have HS := Lib.hid hs
  have HW := Lib.hid h
  have HX := Lib.hid hx
  have HN := Lib.hid hN
  have hl64 : (len : Int) ≤ 9223372036854775807 := by omega
  obtain ⟨w0, hw0, W0, HBX, HBZ⟩ : ∃ w0, w.alloc (wkB pw) = w0 ∧ Hid (Wk ρ w0 pw g cap len m M v N) ∧ Hid (Below w.heap.size w w0) ∧ Hid (w0.cell? ⟨w.heap.size, 0, none⟩ = some (ptrV pw) ∧ w.heap.size < w0.heap.size) := ⟨_, rfl, Lib.hid (h.keep (below_box _ _)), Lib.hid (below_box _ _), Lib.hid ⟨cell_box, by simp⟩⟩
  have HW0 := Lib.hid hw0
  have HRB : Hid (ρ w.heap.size = 0) := Lib.hid (h.fresh _ (Nat.le_refl _))
  have p0 := W0.out.c0
  have p1 := W0.out.c1
  have zw := HBZ.out.1
  rw [hbz]
  have HLL : Hid (l.length ≤ 1000) := Lib.hid (by
    rw [← hl, parts_at (coreL_get hx)]
    split
    · exact Nat.le_trans (right_kids hr (coreL_get hx)) (by decide)
    · simp)
  clear PO PI hr hcp hbz hl h hs hx hmay hm hc64 hw0
  go_enter Tryz.func61, Tryz.ntmps61
  go_upto_region 1 with fail
  rw [HW0.out]
  go_cut [8, 9] (fun q r wx => ∃ (pa : Option Addr) (pl pc : Nat), q = .int .i64 bz ∧ r = .slice pa pl pc ∧ Hid (Below w0.heap.size w0 wx) ∧ Hid (IntRow wx pa pl pc l) ∧ Hid (∀ b off, pa = some ⟨b, off, none⟩ → w0.heap.size ≤ b))
  case first =>
    have KEEP : Hid (∀ W, Below w0.heap.size w0 W → NodeRow W (some ⟨g, 0, none⟩) len cap M ∧ W.cell? ⟨pw, 0, none⟩ = some (.slice (some ⟨g, 0, none⟩) len cap) ∧ W.cell? ⟨pw, 1, none⟩ = some (.int .i64 m) ∧ W.cell? ⟨w.heap.size, 0, none⟩ = some (ptrV pw)) := Lib.hid (fun W hb => by
      have := W0.out.keep hb
      exact ⟨this.row, this.c0, this.c1, (hb.cell (p := ⟨w.heap.size, 0, none⟩) HBZ.out.2).trans HBZ.out.1⟩)
    have B0 := Lib.hid ((Below.refl w0.heap.size w0).drew)
    go_region_with (first
      | (go_at_call 95; (refine (CB.out _ (KEEP.out _ B0.out).1).mono ?_); rintro e w1 ⟨rfl, hb⟩; have B0 := Lib.hid (B0.out.trans (hb.mono B0.out.size)); have p0 := (KEEP.out _ B0.out).2.1; have p1 := (KEEP.out _ B0.out).2.2.1; have zw := (KEEP.out _ B0.out).2.2.2; (try (have IR := Lib.hid (IR.out.below hb))); clear hb)
      | (go_at_call 96; (refine (CP.out _ (KEEP.out _ B0.out).1).mono ?_); rintro e w1 ⟨pa, pl, pc, rfl, hrl, hb, hrn⟩; have IN0 : Hid (∀ b off, pa = some ⟨b, off, none⟩ → w0.heap.size ≤ b) := Lib.hid (fun b off e => Nat.le_trans B0.out.size (hrn b off e)); have B0 := Lib.hid (B0.out.trans (hb.mono B0.out.size)); have p0 := (KEEP.out _ B0.out).2.1; have p1 := (KEEP.out _ B0.out).2.2.1; have zw := (KEEP.out _ B0.out).2.2.2; have IR := Lib.hid hrl; clear hb hrl hrn))
    all_goals go_wp2
    all_goals
      go_meet
      exact ⟨_, _, _, rfl, rfl, B0, IR, IN0⟩
  case rest =>
    obtain ⟨pa, pl, pc, rfl, rfl, HB1, IR, INW⟩ := hcut
    obtain ⟨wd, rfl⟩ : ∃ wd, wd = wc := ⟨_, rfl⟩
    have W1 := Lib.hid (W0.out.keep HB1.out)
    have IR0 : Hid (∀ b off, pa = some ⟨b, off, none⟩ → 0 < pl → ρ b = 0) := Lib.hid (fun b off e _ => W0.out.fresh b (INW.out b off e))
    have hwd : w.heap.size < wd.heap.size := Nat.lt_of_lt_of_le HBZ.out.2 HB1.out.size
    have ZWD : Hid (wd.cell? ⟨w.heap.size, 0, none⟩ = some (ptrV pw)) := Lib.hid ((HB1.out.cell (p := ⟨w.heap.size, 0, none⟩) HBZ.out.2).trans HBZ.out.1)
    have zw := ZWD.out
    have hpll : l.length = pl := IR.out.hlen
    have HPLL := Lib.hid hpll
    have hpl1k : pl ≤ 1000 := by rw [← hpll]; exact HLL.out
    clear p0 p1 hpll CB CP
    have p0 := W1.out.c0
    have x0 := (W1.out.at_ HX.out).c0
    have HQ : Hid (∀ (k : Nat) (z : Int), l[k]? = some z → ∃ q : Nat, z = q ∧ q < len) := Lib.hid (fun k z hz => by
      obtain ⟨q, h1, h2, _⟩ := PIV.out.ls z (List.mem_of_getElem? hz)
      exact ⟨q, h1, by rw [← HL.out]; exact h2⟩)
    go_upto_if 40 with fail
    go_cut [] (fun wx => True ∧ ∃ ρ1 M1 v1 N1, Hid (Wk ρ1 wx pw g cap len m M1 v1 N1) ∧ Hid (Turn ρ wd wx) ∧ Hid (∀ k, k < wd.heap.size → ρ1 k = ρ k) ∧ Hid ((coreL M1, N1) = if x.core.kind = 3 then (l.map Int.toNat).foldl outS (coreL M, N) else (coreL M, N)) ∧ Hid (smallF M1) ∧ Hid (PutInv m (coreL M1) p l bz) ∧ Hid (N1.length ≤ 72000000))
    case first =>
      by_cases hk3 : x.core.kind = 3
      · have e1 : (x.core.kind == 3) = true := beq_iff_eq.2 hk3
        have HP0 : Hid (∀ z ∈ l, parentK (coreL M) z ≠ -1) := Lib.hid (fun z hz => by rw [HLP.out hk3 z hz]; omega)
        have HK3 := Lib.hid hk3
        clear hk3
        rw [e1]
        go_wp2
        go_loopw [43] (fun i wr => ∃ (k : Nat) (ρk : Nat → Nat) (Mk : List NodeD) (vk : Value) (Nk : List NoteD), k ≤ pl ∧ i = .int .i64 k ∧ Hid (Wk ρk wr pw g cap len m Mk vk Nk) ∧ Hid (Turn ρ wd wr) ∧ Hid (∀ k, k < wd.heap.size → ρk k = ρ k) ∧ Hid ((coreL Mk, Nk) = ((l.take k).map Int.toNat).foldl outS (coreL M, N)) ∧ Hid (smallF Mk) ∧ Hid (PutInv m (coreL Mk) p l bz) ∧ Hid (∀ z ∈ l.drop k, parentK (coreL Mk) z ≠ -1) ∧ Nk.length ≤ N.length + 400 * k) (fun i _ => pl - (intOf i).toNat)
        case atStart => exact ⟨0, ρ, M, v, N, Nat.zero_le _, rfl, W1, Lib.hid (Turn.refl _ _), Lib.hid (fun _ _ => rfl), Lib.hid rfl, HS, PIV, Lib.hid HP0.out, Nat.le_refl _⟩
        case round =>
          clear p0 x0 zw
          obtain ⟨k, ρk, Mk, vk, Nk, hk, rfl, WK, TK, AK, EK, SK, PK, QK, hNk⟩ := hrel
          have zw := (TK.out.cell hwd HRB.out).trans ZWD.out
          by_cases hlt : k < pl
          · obtain ⟨bp, op, z, hpa, hbp, hz, hcz, hin⟩ := (TK.out.introw IR.out IR0.out).get hlt
            obtain ⟨q, rfl, hql⟩ := HQ.out k z hz
            have hmem := List.mem_of_getElem? hz
            have hdrop : (q : Int) ∈ l.drop k := by
              refine List.mem_of_getElem? (i := 0) ?_
              rw [List.getElem?_drop, Nat.add_zero]
              exact hz
            have CO := Lib.hid (mgoOut_any wr WK.out PK.out.right SK.out q hql (QK.out _ hdrop) (by have := HN.out; omega))
            have EK2 : Hid (((l.take (k + 1)).map Int.toNat).foldl outS (coreL M, N) = outS (coreL Mk, Nk) q) := Lib.hid (by
              rw [List.take_add_one, hz, List.map_append, List.foldl_append, ← EK.out]
              rfl)
            have PK2 : Hid (PutInv m (outS (coreL Mk, Nk) q).1 p l bz) := Lib.hid (PK.out.outs (S := (coreL Mk, Nk)) hmem)
            have HLK : Hid ((coreL Mk).length = len) := Lib.hid (by rw [coreL_len, WK.out.hlen])
            have LK2 : Hid ((outS (coreL Mk, Nk) q).2.length ≤ Nk.length + 400) := Lib.hid (outS_len (S := (coreL Mk, Nk)) PK.out.right (show q < (coreL Mk).length by rw [HLK.out]; exact hql))
            have QK2 : Hid (∀ z ∈ l.drop (k + 1), parentK (outS (coreL Mk, Nk) q).1 z ≠ -1) := Lib.hid (fun z hz2 => by
              obtain ⟨i, hi⟩ := List.getElem?_of_mem hz2
              rw [List.getElem?_drop] at hi
              obtain ⟨t, rfl, htl⟩ := HQ.out _ z hi
              have hne : t ≠ q := fun e => by
                subst e
                have := (List.getElem?_inj (List.getElem?_eq_some_iff.1 hz).1 PIV.out.once).1 (hz.trans hi.symm)
                omega
              have hd2 : (t : Int) ∈ l.drop k := List.mem_of_getElem? (i := 1 + i) (by rw [List.getElem?_drop, ← Nat.add_assoc]; exact hi)
              have h3 := QK.out _ hd2
              unfold outS
              rw [if_neg (QK.out _ hdrop)]
              show parentK (mvOut (coreL Mk) q) t ≠ -1
              rw [parentK_out (by rw [HLK.out]; exact htl) hne]
              exact h3)
            subst hpa
            have hk64 : (k : Int) + 1 ≤ 9223372036854775807 := by omega
            clear hz hin hmem hdrop
            go_wp2_with (go_at_call 57; (with_reducible refine CO.out.mono ?_); rintro e w9 ⟨rfl, ρ9, M9, v9, N9, W9, T9, A9, E9, S9, R9⟩)
            obtain ⟨TT, AA⟩ := chain_turn TK.out AK.out T9 A9
            have HE9 : Hid (coreL M9 = (outS (coreL Mk, Nk) q).1 ∧ N9 = (outS (coreL Mk, Nk) q).2) := Lib.hid ⟨congrArg Prod.fst E9, congrArg Prod.snd E9⟩
            have hN9 : N9.length ≤ N.length + 400 * (k + 1) := by have := LK2.out; rw [← HE9.out.2] at this; omega
            have E9 := Lib.hid E9
            have W9 := Lib.hid W9
            have TT := Lib.hid TT
            have AA := Lib.hid AA
            have S9 := Lib.hid S9
            clear T9 A9 R9
            go_roundw
            case rel =>
              exact ⟨k + 1, ρ9, M9, v9, N9, by omega, by go_num, W9, TT, AA, Lib.hid (by rw [EK2.out]; exact E9.out), S9, Lib.hid (by rw [HE9.out.1]; exact PK2.out), Lib.hid (by rw [HE9.out.1]; exact QK2.out), hN9⟩
            case measure => simp [intOf]; omega
          · have hkk : k = pl := by omega
            subst hkk
            have HTA : Hid (l.take k = l) := Lib.hid (List.take_of_length_le (by rw [HPLL.out]; exact Nat.le_refl _))
            go_wp2
            go_meet
            exact ⟨trivial, ρk, Mk, vk, Nk, WK, TK, AK, Lib.hid (by rw [if_pos HK3.out, EK.out, HTA.out]), SK, PK, Lib.hid (by have := HN.out; omega)⟩
      · have e1 : (x.core.kind == 3) = false := beq_eq_false_iff_ne.2 hk3
        have HK3 := Lib.hid hk3
        clear hk3
        go_wp2
        go_meet
        exact ⟨trivial, ρ, M, v, N, W1, Lib.hid (Turn.refl _ _), Lib.hid (fun _ _ => rfl), Lib.hid (by rw [if_neg HK3.out]), HS, PIV, Lib.hid (by have := HN.out; omega)⟩
    case rest =>
      obtain ⟨-, ρ1, M1, v1, N1, W2, T2, A2, E2, S2, PI2, HN2⟩ := hcut
      rw [← E2.out] at HPUT
      have IR1 : Hid (∀ b off, pa = some ⟨b, off, none⟩ → 0 < pl → ρ1 b = 0) := Lib.hid (fun b off e hp => by
        rw [A2.out b (by
          rcases IR.out.row.cells with e0 | ⟨b2, off2, ha2, hlt, _⟩
          · omega
          · rw [e] at ha2
            injection ha2 with ha2
            injection ha2 with e1
            omega)]
        exact IR0.out b off e hp)
      clear E2 HLP HX0 p0 x0 zw
      go_wp2
      go_loopw [54] (fun i wr => ∃ (k : Nat) (ρk : Nat → Nat) (Mk : List NodeD) (vk : Value) (Nk : List NoteD), k ≤ pl ∧ i = .int .i64 k ∧ Hid (Wk ρk wr pw g cap len m Mk vk Nk) ∧ Hid (Turn ρ wd wr) ∧ Hid (∀ k, k < wd.heap.size → ρk k = ρ k) ∧ Hid ((coreL Mk, Nk) = ((l.take k).map Int.toNat).foldl (inS p bz) (coreL M1, N1)) ∧ Hid (smallF Mk) ∧ Hid (PutInv m (coreL Mk) p (l.drop k) bz) ∧ Nk.length ≤ 72000000 + 1200 * k) (fun i _ => pl - (intOf i).toNat)
      case atStart => exact ⟨0, ρ1, M1, v1, N1, Nat.zero_le _, rfl, W2, T2, A2, Lib.hid rfl, S2, PI2, HN2.out⟩
      case round =>
        clear W2 T2 A2 S2 PI2 HN2
        obtain ⟨k, ρk, Mk, vk, Nk, hk, rfl, WK, TK, AK, EK, SK, PK, hNk⟩ := hrel
        have zw := (TK.out.cell hwd HRB.out).trans ZWD.out
        by_cases hlt : k < pl
        · obtain ⟨bp, op, z, hpa, hbp, hz, hcz, hin⟩ := (TK.out.introw IR.out IR0.out).get hlt
          obtain ⟨q, rfl, hql⟩ := HQ.out k z hz
          have hdr : l.drop k = (q : Int) :: l.drop (k + 1) := by
            obtain ⟨h1, h2⟩ := List.getElem?_eq_some_iff.1 hz
            rw [List.drop_eq_getElem_cons h1, h2]
          have PKq : PutInv m (coreL Mk) p ((q : Int) :: l.drop (k + 1)) bz := by rw [← hdr]; exact PK.out
          have CO := Lib.hid (mpart_any wr WK.out SK.out q p bz (l.drop (k + 1)) PKq (by omega))
          have EK2 : Hid (((l.take (k + 1)).map Int.toNat).foldl (inS p bz) (coreL M1, N1) = inS p bz (coreL Mk, Nk) q) := Lib.hid (by
            rw [List.take_add_one, hz, List.map_append, List.foldl_append, ← EK.out]
            rfl)
          have PK2 : Hid (PutInv m (inS p bz (coreL Mk, Nk) q).1 p (l.drop (k + 1)) bz) := Lib.hid (PutInv.ins (S := (coreL Mk, Nk)) PKq)
          have LK2 : Hid ((inS p bz (coreL Mk, Nk) q).2.length ≤ Nk.length + 1200) := Lib.hid (inS_len (S := (coreL Mk, Nk)) PKq)
          subst hpa
          have hk64 : (k : Int) + 1 ≤ 9223372036854775807 := by omega
          clear hz hin hdr PKq
          go_wp2_with (go_at_call 97; (with_reducible refine CO.out.mono ?_); rintro e w9 ⟨rfl, ρ9, M9, v9, N9, W9, T9, A9, E9, S9⟩)
          obtain ⟨TT, AA⟩ := chain_turn TK.out AK.out T9 A9
          have HE9 : Hid (coreL M9 = (inS p bz (coreL Mk, Nk) q).1 ∧ N9 = (inS p bz (coreL Mk, Nk) q).2) := Lib.hid ⟨congrArg Prod.fst E9, congrArg Prod.snd E9⟩
          have hN9 : N9.length ≤ 72000000 + 1200 * (k + 1) := by have := LK2.out; rw [← HE9.out.2] at this; omega
          have E9 := Lib.hid E9
          have W9 := Lib.hid W9
          have TT := Lib.hid TT
          have AA := Lib.hid AA
          have S9 := Lib.hid S9
          clear T9 A9
          go_roundw
          case rel => exact ⟨k + 1, ρ9, M9, v9, N9, by omega, by go_num, W9, TT, AA, Lib.hid (by rw [EK2.out]; exact E9.out), S9, Lib.hid (by rw [HE9.out.1]; exact PK2.out), hN9⟩
          case measure => simp [intOf]; omega
        · have hkk : k = pl := by omega
          subst hkk
          have HTA : Hid (l.take k = l) := Lib.hid (List.take_of_length_le (by rw [HPLL.out]; exact Nat.le_refl _))
          obtain ⟨TT, AA⟩ := chain_turn (Turn.of_below (ρ := ρ) (HBX.out.trans (HB1.out.mono HBX.out.size))) (fun _ _ => rfl) TK.out AK.out
          have TT := Lib.hid TT
          have AA := Lib.hid AA
          go_wp2
          refine bodyPost_ret (v := .tuple #[]) (by simp [results, Tryz.results61]) rfl ⟨rfl, ρk, Mk, vk, Nk, WK.out, TT.out, AA.out, by rw [HPUT.out, EK.out, HTA.out], SK.out, PK.out.right⟩
end
end Go.Proofs.YtkgbgnmmgmnnlaaGreatDoor
namespace Go.Proofs.YtkgbgnmmgmnnlaaGreatDoor
open Go.RowKit
set_option maxHeartbeats 4000000 in
set_option maxRecDepth 100000 in
theorem refrootR_any (a : Option Addr) (len cap : Nat) (m : Int) (L : List NodeD) (hr : rightF m (coreL L) = true) : ∀ (r n : Nat) (w : World), NodeRow w a len cap L → n < len → rankF (coreL L) n ≤ r →
    Calls Tryz.prog 39 #[forV a len cap m, .int .i64 n] w fun e w' => e = .returned (.int .i64 (rootF (coreL L) n : Nat)) ∧ Below w.heap.size w w' := by
  intro r
  induction r with
  | zero =>
    intro n w h hn hk
    have HCL : Hid ((coreL L).length = len) := Lib.hid (by rw [coreL_len, h.hlen])
    have hlen := h.len64
    have BX := Lib.hid (Box.start (m := m) h)
    have z0 := BX.out.c0
    obtain ⟨b, off, x, rfl, hb, hx, hat, hok⟩ := BX.out.row.get hn
    have c5 := hat.c5
    have hxc := coreL_get hx
    by_cases hp : x.core.parent = -1
    · have HR : Hid (rootF (coreL L) n = n) := Lib.hid (rootN_none (right_top hxc hp))
      rw [hp] at c5
      clear hat hok hx hxc hp hb h hk
      go_enter Tryz.func39, Tryz.ntmps39
      go_wp2
      go_ret
      exact ⟨ret_int (by rw [HR.out]), BX.out.below⟩
    · obtain ⟨p, hpp, hpl, hpar⟩ := right_par hr hxc hp
      have := (tree_of_right hr).rank_up _ n (by rw [HCL.out]; exact hn) hpar
      omega
  | succ r ih =>
    intro n w h hn hk
    have HCL : Hid ((coreL L).length = len) := Lib.hid (by rw [coreL_len, h.hlen])
    have hlen := h.len64
    have BX := Lib.hid (Box.start (m := m) h)
    have z0 := BX.out.c0
    have z1 := BX.out.c1
    obtain ⟨b, off, x, rfl, hb, hx, hat, hok⟩ := BX.out.row.get hn
    have c5 := hat.c5
    have hxc := coreL_get hx
    by_cases hp : x.core.parent = -1
    · have HR : Hid (rootF (coreL L) n = n) := Lib.hid (rootN_none (right_top hxc hp))
      rw [hp] at c5
      clear hat hok hx hxc hp hb h hk ih
      go_enter Tryz.func39, Tryz.ntmps39
      go_wp2
      go_ret
      exact ⟨ret_int (by rw [HR.out]), BX.out.below⟩
    · obtain ⟨p, hpp, hpl, hpar⟩ := right_par hr hxc hp
      have T := tree_of_right hr
      have hrk := T.rank_up _ n (by rw [HCL.out]; exact hn) hpar
      have HR : Hid (rootF (coreL L) n = rootF (coreL L) p) := Lib.hid (T.root_held (by rw [HCL.out]; exact hn) (by omega) (holds_par hpar)).symm
      have IH : Hid (∀ W, NodeRow W (some ⟨b, off, none⟩) len cap L → Calls Tryz.prog 39 #[forV (some ⟨b, off, none⟩) len cap m, .int .i64 p] W fun e w' => e = .returned (.int .i64 (rootF (coreL L) n : Nat)) ∧ Below W.heap.size W w') := Lib.hid (fun W h => by
        rw [HR.out]
        exact ih p W h (by rw [HCL.out] at hpl; exact hpl) (by omega))
      rw [hpp] at c5
      have hne : ((p : Int) == -1) = false := beq_eq_false_iff_ne.2 (by omega)
      have HB := Lib.hid hb
      clear hat hok hx hxc hp hb h hk ih hpar hpl T hrk hpp
      go_enter Tryz.func39, Tryz.ntmps39
      go_wp2
      have E0 := Ext.cell z0 BX.out.lt
      have E1 := Ext.cell z1 BX.out.lt
      have E5 := Ext.cell c5 HB.out
      have EI := Lib.hid (fun (x : Ext (w.alloc (forB (some ⟨b, off, none⟩) len cap m))) => IH.out x.v (BX.out.row.below x.below))
      refine wp_region_ext (by kernel_rfl) (by kernel_rfl) ?_
      repeat (go_big_quiet_step (first | (go_at_call 39; exact Ext.call_below (EI.out _))))
      refine wpQuiet_nil ?_
      intro w3 hw'
      obtain ⟨⟨w4, hb4⟩, hw''⟩ := hw'
      dsimp only at hw''
      subst hw''
      have BX := Lib.hid (BX.out.keep hb4)
      clear E0 E1 E5 EI hb4
      go_wp2
      go_ret
      exact ⟨rfl, BX.out.below⟩
theorem refrootF_any (a : Option Addr) (len cap : Nat) (m : Int) (L : List NodeD) (n : Nat) (w : World) (hr : rightF m (coreL L) = true) (h : NodeRow w a len cap L) (hn : n < len) :
    Calls Tryz.prog 39 #[forV a len cap m, .int .i64 n] w fun e w' => e = .returned (.int .i64 (rootF (coreL L) n : Nat)) ∧ Below w.heap.size w w' :=
  refrootR_any a len cap m L hr _ n w h hn (Nat.le_refl _)
end Go.Proofs.YtkgbgnmmgmnnlaaGreatDoor
namespace Go.Proofs.YtkgbgnmmgmnnlaaGreatDoor
open Go.RowKit
attribute [local go_sem ↓] Go.wp_at_zero Go.wp_at_succ
def ordG (F : List Core) (f n : Nat) : List Int := (ordN (kidsF F) f n).map Int.ofNat
theorem ordG_succ {F : List Core} {f n : Nat} {x : Core} (hx : F[n]? = some x) : ordG F (f + 1) n = (n : Int) :: x.kids.flatMap (fun z => ordG F f z.toNat) := by
  have hk : kidsF F n = x.kids.map Int.toNat := by unfold kidsF; rw [hx]
  have h2 : ordN (kidsF F) (f + 1) n = n :: (kidsF F n).flatMap (ordN (kidsF F) f) := rfl
  unfold ordG
  rw [h2, hk, List.map_cons, List.flatMap_map, List.map_flatMap]
  rfl
def ordTo (F : List Core) (f n : Nat) (K : List Int) (k : Nat) : List Int := (n : Int) :: (K.take k).flatMap (fun z => ordG F f z.toNat)
theorem ordTo_step {F : List Core} {f n k : Nat} {K : List Int} {z : Int} (h : K[k]? = some z) : ordTo F f n K (k + 1) = ordTo F f n K k ++ ordG F f z.toNat := by
  obtain ⟨hl, hg⟩ := List.getElem?_eq_some_iff.1 h
  unfold ordTo
  rw [List.take_succ_eq_append_getElem hl, hg, List.flatMap_append]
  simp
theorem right_kid {m : Int} {F : List Core} (hr : rightF m F = true) {n : Nat} {x : Core} (hx : F[n]? = some x) {z : Int} (hz : z ∈ x.kids) : ∃ k : Nat, z = k ∧ k < F.length ∧ rankF F k = rankF F n + 1 := by
  have T := tree_of_right hr
  have h2 := (nodeOk_iff.1 (((rightF_iff m F).1 hr).2.1 _ x hx)).2.2.1 z hz
  obtain ⟨c, hc, _⟩ := kidB_iff.1 (kidOk_iff.1 h2).2
  obtain ⟨e1, e2, _⟩ := getC_some hc
  have hm : z.toNat ∈ kidsF F n := by
    unfold kidsF
    rw [hx]
    exact List.mem_map.2 ⟨z, hz, rfl⟩
  exact ⟨z.toNat, by omega, e2, (T.kid_rank hm).2⟩
theorem ordG_len {m : Int} {F : List Core} (hr : rightF m F = true) {f n : Nat} (hn : n < F.length) (hf : F.length + 1 ≤ rankF F n + f) : (ordG F f n).length ≤ F.length := by
  have T := tree_of_right hr
  unfold ordG
  rw [List.length_map]
  exact nodup_lt F.length _ (T.ord_nodup _ n hn hf) (fun x hx => T.ord_lt _ n hn x hx)
theorem prefix_len {F : List Core} {f n k : Nat} {x : Core} (hx : F[n]? = some x) : (ordTo F f n x.kids k).length ≤ (ordG F (f + 1) n).length := by
  rw [ordG_succ hx]
  unfold ordTo
  rw [List.length_cons, List.length_cons]
  have : (x.kids.flatMap (fun z => ordG F f z.toNat)).length = ((x.kids.take k).flatMap (fun z => ordG F f z.toNat)).length + ((x.kids.drop k).flatMap (fun z => ordG F f z.toNat)).length := by
    rw [← List.length_append, ← List.flatMap_append, List.take_append_drop]
  omega
set_option maxHeartbeats 16000000 in
set_option maxRecDepth 100000 in
theorem reforderR_any (a : Option Addr) (len cap : Nat) (m : Int) (L : List NodeD) (hr : rightF m (coreL L) = true) (hs : L.length ≤ 1000) : ∀ (f n : Nat) (w : World), NodeRow w a len cap L → n < len → len + 2 ≤ rankF (coreL L) n + f →
    Calls Tryz.prog 38 #[forV a len cap m, .int .i64 n] w (OrdPost w (ordG (coreL L) f n)) := by
  intro f
  induction f with
  | zero =>
    intro n w h hn hk
    have h1 := (tree_of_right hr).rank_le n (by rw [coreL_len, h.hlen]; exact hn)
    rw [coreL_len, h.hlen] at h1
    omega
  | succ f ih =>
    intro n w h hn hk
    have HCL : Hid ((coreL L).length = len) := Lib.hid (by rw [coreL_len, h.hlen])
    have hlen : len ≤ 1000 := by rw [← h.hlen]; exact hs
    obtain ⟨w1, hw1, BX⟩ : ∃ w1, w.alloc (forB a len cap m) = w1 ∧ Box w w1 w.heap.size a len cap m L (coreL L) := ⟨_, rfl, Box.start h⟩
    have BX := Lib.hid BX
    have HW1 := Lib.hid hw1
    obtain ⟨b, off, x, rfl, hb, hx, hat, hok⟩ := BX.out.row.get hn
    have hxc := coreL_get hx
    have HX := Lib.hid hxc
    have HKR := Lib.hid hok.kids
    have HC6 := Lib.hid (stays hat.c6 hb)
    have HB := Lib.hid hb
    have HKL := Lib.hid hok.kids.hlen
    have HNL : Hid ((ordG (coreL L) (f + 1) n).length ≤ 1000) := Lib.hid (Nat.le_trans (ordG_len hr (by rw [HCL.out]; exact hn) (by rw [HCL.out]; omega)) (by rw [HCL.out]; exact hlen))
    have IH : Hid (∀ z ∈ x.core.kids, ∃ k : Nat, z = k ∧ ∀ W, NodeRow W (some ⟨b, off, none⟩) len cap L → Calls Tryz.prog 38 #[forV (some ⟨b, off, none⟩) len cap m, .int .i64 z] W (OrdPost W (ordG (coreL L) f z.toNat))) := Lib.hid (fun z hz => by
      obtain ⟨k, rfl, hkl, hrk⟩ := right_kid hr hxc hz
      exact ⟨k, rfl, fun W h => by
        rw [Int.toNat_natCast]
        exact ih k W h (by rw [HCL.out] at hkl; exact hkl) (by omega)⟩)
    obtain ⟨i0, hi0, hz0, hz1, hz2⟩ := info_parts int_info
    have hkn : x.kN ≤ 9223372036854775807 := hok.kids.len64
    have z0 := BX.out.c0
    have z1 := BX.out.c1
    have c6 := HC6.out _ (Below.refl _ _)
    have OW0 : Hid ((w1.alloc (.cells #[.int .i64 n] 3)).ownsRow w1.heap.size 3 1 (.slice (some ⟨w.heap.size + 1, 0, none⟩) 1 1) (ordTo (coreL L) f n x.core.kids 0).length ((ordTo (coreL L) f n x.core.kids 0).flatMap encZ)) := Lib.hid (by
      have h2 := World.ownsRow_lit (base := w1.heap.size) (e := 3) (size := 1) w1 #[.int .i64 n] 1 (Nat.le_refl _) (by unfold maxLen; omega) (by simp)
      rwa [show (some (⟨w1.heap.size, 0, none⟩ : Addr)) = some ⟨w.heap.size + 1, 0, none⟩ by rw [← hw1]; simp] at h2)
    clear hat hok hx hxc hb h hk ih hw1
    go_enter Tryz.func38, Tryz.ntmps38
    go_wp2
    rw [HW1.out]
    go_loopw [5, 6] (fun v i wr => ∃ k : Nat, k ≤ x.kN ∧ i = .int .i64 k ∧ Hid (Below w1.heap.size w1 wr) ∧ Hid (wr.ownsRow w1.heap.size 3 1 v (ordTo (coreL L) f n x.core.kids k).length ((ordTo (coreL L) f n x.core.kids k).flatMap encZ))) (fun _ i _ => x.kN - (intOf i).toNat)
    case atStart => exact ⟨0, Nat.zero_le _, rfl, Lib.hid (below_box w1 _), OW0⟩
    case round =>
      clear OW0 z0 z1 c6
      obtain ⟨k, hk, rfl, HBW, OW⟩ := hrel
      have BX2 := Lib.hid (BX.out.keep HBW.out)
      have z0 := BX2.out.c0
      have z1 := BX2.out.c1
      have c6 := HC6.out _ HBW.out
      by_cases hlt : k < x.kN
      · obtain ⟨bk, ok, z, hka, hbk, hz, hcz, hin⟩ := (HKR.out.below HBW.out).get hlt
        obtain ⟨zk, rfl, IHz⟩ := IH.out z (List.mem_of_getElem? hz)
        have IHZ := Lib.hid IHz
        rw [hka] at c6
        have HCK := Lib.hid (HC6.out)
        rw [hka] at HCK
        have HPL : Hid ((ordTo (coreL L) f n x.core.kids k).length + (ordG (coreL L) f zk).length ≤ 1000) := Lib.hid (by
          have h1 := prefix_len (f := f) (k := k + 1) HX.out
          rw [ordTo_step hz, List.length_append, Int.toNat_natCast] at h1
          have := HNL.out
          omega)
        have HST := Lib.hid (ordTo_step (F := coreL L) (f := f) (n := n) hz)
        have HBK : Hid (bk < w1.heap.size) := Lib.hid (by
          rcases HKR.out.row.cells with h0 | ⟨b2, o2, ha2, hlt2, _⟩
          · omega
          · rw [hka] at ha2
            injection ha2 with ha2
            injection ha2 with e1
            omega)
        have HCZ : Hid (∀ W, Below w1.heap.size w1 W → W.cell? ⟨bk, ok + k, none⟩ = some (.int .i64 (zk : Int))) := Lib.hid (stays ((HBW.out.cell (p := ⟨bk, ok + k, none⟩) HBK.out).symm.trans hcz) HBK.out)
        obtain ⟨n1, hn1⟩ : ∃ n1, (ordTo (coreL L) f n x.core.kids k).length = n1 := ⟨_, rfl⟩
        have HN1 := Lib.hid hn1
        rw [hn1] at OW HPL
        have hpl := HPL.out
        clear hz hin hka hbk IHz hn1
        go_wp2
        have cz := HCZ.out _ HBW.out
        go_region_held3 (fun w' => w'.cell? ⟨w.heap.size, 0, none⟩ = some (.slice (some ⟨b, off, none⟩) len cap) ∧ w'.cell? ⟨w.heap.size, 1, none⟩ = some (.int .i64 m) ∧ w'.cell? ⟨b, off + n * 10 + 6, none⟩ = some (.slice (some ⟨bk, ok, none⟩) x.kN x.kC) ∧ w'.cell? ⟨bk, ok + k, none⟩ = some (.int .i64 (zk : Int))) (go_keep)
          (first
            | (go_at_call 38; refine (IHZ.out _ BX2.out.row.drew).mono ?_; intro e w2 hp; obtain ⟨a2, n2, c2, rfl, hrow, hb⟩ := hp; have hb := (Below.refl _ _).drew.trans hb; have IR := Lib.hid hrow; have OW := Lib.hid (own_below OW.out hb); have HBW := Lib.hid (HBW.out.trans (hb.mono HBW.out.size)); have BX2 := Lib.hid (BX.out.keep HBW.out); have z0 := BX2.out.c0; have z1 := BX2.out.c1; have c6 := HCK.out _ HBW.out; have cz := HCZ.out _ HBW.out; have hn2 : n2 ≤ 1000 := (by have h1 := IR.out.hlen; rw [Int.toNat_natCast] at h1; omega); have hn12 : n1 + n2 ≤ 1000 := (by have h1 := IR.out.hlen; rw [Int.toNat_natCast] at h1; omega); clear hrow hb)
            | (refine step_append_rows (by rfl) _ _ _ (by rfl) 3 i0 _ 1 8 Tryz.underlying27 hi0 hz0 hz1 hz2 (by rfl) (by decide) w1.heap.size u5 n1 (ordTo (coreL L) f n x.core.kids k) (ordG (coreL L) f (zk : Int).toNat) (by rfl) OW.out a2 n2 c2 (by rfl) IR.out.row (fun x _ => encZ_one x) (by unfold maxLen; omega) (by omega) HBW.out.size IR.out.hnil ?_; intro v2 w3 hown3 hg3 hat3; have HBW := Lib.hid (HBW.out.grown hg3 HBW.out.size (fun k e => (OW.out.lt k e).1)); have OW := Lib.hid hown3; have BX2 := Lib.hid (BX.out.keep HBW.out); have z0 := BX2.out.c0; have z1 := BX2.out.c1; have c6 := HCK.out _ HBW.out; have cz := HCZ.out _ HBW.out; clear hown3 hg3 hat3))
        have OW2 : Hid (w3.ownsRow w1.heap.size 3 1 v2 (ordTo (coreL L) f n x.core.kids (k + 1)).length ((ordTo (coreL L) f n x.core.kids (k + 1)).flatMap encZ)) := Lib.hid (by
          have h1 := OW.out
          rw [← HST.out] at h1
          have h2 : n1 + n2 = (ordTo (coreL L) f n x.core.kids (k + 1)).length := by
            rw [HST.out, List.length_append, HN1.out, IR.out.hlen]
          rwa [h2] at h1)
        go_wp2
        go_roundw
        case rel => exact ⟨k + 1, by omega, by go_num, HBW, OW2⟩
        case measure => simp [intOf]; omega
      · have hkk : k = x.kN := by omega
        subst hkk
        have HD : Hid (ordTo (coreL L) f n x.core.kids x.kN = ordG (coreL L) (f + 1) n) := Lib.hid (by
          rw [ordG_succ HX.out]
          unfold ordTo
          rw [List.take_of_length_le (by rw [HKL.out]; exact Nat.le_refl _)])
        rw [HD.out] at OW
        have HIN : Hid (∀ z ∈ ordG (coreL L) (f + 1) n, In64 z) := Lib.hid (fun z hz => by
          unfold ordG at hz
          obtain ⟨q, hq, rfl⟩ := List.mem_map.1 hz
          have hql := (tree_of_right hr).ord_lt _ n (by rw [HCL.out]; exact hn) q hq
          rw [HCL.out] at hql
          exact ⟨by show (_ : Int) ≤ ((q : Nat) : Int); omega, by show ((q : Nat) : Int) ≤ _; omega⟩)
        obtain ⟨a9, cap9, rfl, hr9, -⟩ := IntRow.of_own_new (M := ordG (coreL L) (f + 1) n) (n := (ordG (coreL L) (f + 1) n).length) rfl OW.out HIN.out
        have HR9 := Lib.hid hr9
        clear hr9
        by_cases hkz : x.kN = 0
        · have hkz' := Lib.hid hkz
          go_wp2
          go_ret
          exact ⟨a9, _, cap9, rfl, HR9.out, BX.out.below.trans (HBW.out.mono BX.out.below.size)⟩
        · go_wp2
          go_ret
          exact ⟨a9, _, cap9, rfl, HR9.out, BX.out.below.trans (HBW.out.mono BX.out.below.size)⟩
theorem reforder_any (a : Option Addr) (len cap : Nat) (m : Int) (L : List NodeD) (hr : rightF m (coreL L) = true) (hs : L.length ≤ 1000) (n : Nat) (w : World) (h : NodeRow w a len cap L) (hn : n < len) :
    Calls Tryz.prog 38 #[forV a len cap m, .int .i64 n] w (OrdPost w ((ordF (coreL L) n).map Int.ofNat)) := by
  have hcl : (coreL L).length = len := by rw [coreL_len, h.hlen]
  have h2 := reforderR_any a len cap m L hr hs (len + 2) n w h hn (by omega)
  have h3 : ordG (coreL L) (len + 2) n = (ordF (coreL L) n).map Int.ofNat := by
    unfold ordG ordF
    rw [hcl, (tree_of_right hr).ord_more (len + 1) n (by rw [hcl]; exact hn) (by rw [hcl]; omega)]
  rwa [h3] at h2
end Go.Proofs.YtkgbgnmmgmnnlaaGreatDoor
